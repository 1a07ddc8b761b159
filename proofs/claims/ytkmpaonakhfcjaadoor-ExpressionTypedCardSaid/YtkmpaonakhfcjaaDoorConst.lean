/-
  Constants: what the program's Constant and the reference's give.
-/
import Derived.Test.YtkmpaonakhfcjaaDoorTree
import Derived.BigQuiet
set_option linter.unusedVariables false
namespace Go.Proofs.YtkmpaonakhfcjaaDoor
open Go Go.RowKit
def cOp (k : Int) : Int := if k = 1 then 2 else if k = 2 then 3 else if k = 3 then 4 else 1
def cTy (k t : Int) : Int := if k = 1 then 0 else if k = 2 then 0 else if k = 3 then 0 else t
def cNum (k n : Int) : Int := if k = 1 then n else if k = 2 then n else 0
def cTxt (k : Int) (s : ByteArray) : ByteArray := if k = 3 then s else ⟨#[]⟩
set_option maxHeartbeats 1000000 in
theorem Constant_calls (k n : Int) (s : ByteArray) (t : Int) (w : World) :
    Calls Tryd.prog 18 #[.agg #[.int .i64 k, .int .i64 n, .string s], .int .i64 t] w fun r w' => r = .returned (.agg #[.int .i64 (cOp k), .int .i64 (cTy k t), .int .i64 (cNum k n), .string (cTxt k s), .int .i64 0, .slice none 0 0]) ∧ Cls w w' := by
  by_cases h1 : k = 1
  · subst h1
    go_enter Tryd.func18, Tryd.ntmps18
    go_wp2_with fail
    all_goals
      refine ret_ex rfl ?_
      simp [results, Tryd.results18, go_sem]
      refine ⟨⟨rfl, rfl, rfl, rfl⟩, Cls.of ?_⟩
      repeat first | with_reducible exact Below.refl _ _ | with_reducible refine Below.setCell ?_ (by first | omega | (simp; done) | (simp; omega)) _ | with_reducible refine Below.alloc ?_ (by first | omega | (simp; done) | (simp; omega)) _ | with_reducible refine Below.drew ?_ | with_reducible refine Ext.on _ ?_ (by first | omega | (simp; done) | (simp; omega))
  · by_cases h2 : k = 2
    · subst h2
      go_enter Tryd.func18, Tryd.ntmps18
      go_wp2_with fail
      all_goals
        refine ret_ex rfl ?_
        simp [results, Tryd.results18, go_sem]
        refine ⟨⟨rfl, rfl, rfl, rfl⟩, Cls.of ?_⟩
        repeat first | with_reducible exact Below.refl _ _ | with_reducible refine Below.setCell ?_ (by first | omega | (simp; done) | (simp; omega)) _ | with_reducible refine Below.alloc ?_ (by first | omega | (simp; done) | (simp; omega)) _ | with_reducible refine Below.drew ?_ | with_reducible refine Ext.on _ ?_ (by first | omega | (simp; done) | (simp; omega))
    · by_cases h3 : k = 3
      · subst h3
        go_enter Tryd.func18, Tryd.ntmps18
        go_wp2_with fail
        all_goals
          refine ret_ex rfl ?_
          simp [results, Tryd.results18, go_sem]
          refine ⟨⟨rfl, rfl, rfl, rfl⟩, Cls.of ?_⟩
          repeat first | with_reducible exact Below.refl _ _ | with_reducible refine Below.setCell ?_ (by first | omega | (simp; done) | (simp; omega)) _ | with_reducible refine Below.alloc ?_ (by first | omega | (simp; done) | (simp; omega)) _ | with_reducible refine Below.drew ?_ | with_reducible refine Ext.on _ ?_ (by first | omega | (simp; done) | (simp; omega))
      · have b1 : (k == 1) = false := by simpa using h1
        have b2 : (k == 2) = false := by simpa using h2
        have b3 : (k == 3) = false := by simpa using h3
        have H1 : Hid (cOp k = 1 ∧ cTy k t = t ∧ cNum k n = 0 ∧ cTxt k s = ⟨#[]⟩) := Lib.hid (by simp [cOp, cTy, cNum, cTxt, h1, h2, h3])
        clear h1 h2 h3
        go_enter Tryd.func18, Tryd.ntmps18
        go_wp2_with fail
        all_goals
          refine ret_ex rfl ?_
          obtain ⟨e1, e2, e3, e4⟩ := H1.out
          simp [results, Tryd.results18, go_sem, e1, e2, e3, e4]
          refine Cls.of ?_
          repeat first | with_reducible exact Below.refl _ _ | with_reducible refine Below.setCell ?_ (by first | omega | (simp; done) | (simp; omega)) _ | with_reducible refine Below.alloc ?_ (by first | omega | (simp; done) | (simp; omega)) _ | with_reducible refine Below.drew ?_ | with_reducible refine Ext.on _ ?_ (by first | omega | (simp; done) | (simp; omega))
set_option maxHeartbeats 1000000 in
theorem rConstant_calls (k n : Int) (s : ByteArray) (t : Int) (w : World) :
    Calls Tryd.prog 21 #[.agg #[.int .i64 k, .int .i64 n, .string s], .int .i64 t] w fun r w' => r = .returned (.agg #[.int .i64 (cOp k), .int .i64 (cTy k t), .int .i64 (cNum k n), .string (cTxt k s), .int .i64 0, .slice none 0 0]) ∧ Cls w w' := by
  by_cases h1 : k = 1
  · subst h1
    go_enter Tryd.func21, Tryd.ntmps21
    go_wp2_with fail
    all_goals
      refine ret_ex rfl ?_
      simp [results, Tryd.results21, go_sem]
      refine ⟨⟨rfl, rfl, rfl, rfl⟩, Cls.of ?_⟩
      repeat first | with_reducible exact Below.refl _ _ | with_reducible refine Below.setCell ?_ (by first | omega | (simp; done) | (simp; omega)) _ | with_reducible refine Below.alloc ?_ (by first | omega | (simp; done) | (simp; omega)) _ | with_reducible refine Below.drew ?_ | with_reducible refine Ext.on _ ?_ (by first | omega | (simp; done) | (simp; omega))
  · by_cases h2 : k = 2
    · subst h2
      go_enter Tryd.func21, Tryd.ntmps21
      go_wp2_with fail
      all_goals
        refine ret_ex rfl ?_
        simp [results, Tryd.results21, go_sem]
        refine ⟨⟨rfl, rfl, rfl, rfl⟩, Cls.of ?_⟩
        repeat first | with_reducible exact Below.refl _ _ | with_reducible refine Below.setCell ?_ (by first | omega | (simp; done) | (simp; omega)) _ | with_reducible refine Below.alloc ?_ (by first | omega | (simp; done) | (simp; omega)) _ | with_reducible refine Below.drew ?_ | with_reducible refine Ext.on _ ?_ (by first | omega | (simp; done) | (simp; omega))
    · by_cases h3 : k = 3
      · subst h3
        go_enter Tryd.func21, Tryd.ntmps21
        go_wp2_with fail
        all_goals
          refine ret_ex rfl ?_
          simp [results, Tryd.results21, go_sem]
          refine ⟨⟨rfl, rfl, rfl, rfl⟩, Cls.of ?_⟩
          repeat first | with_reducible exact Below.refl _ _ | with_reducible refine Below.setCell ?_ (by first | omega | (simp; done) | (simp; omega)) _ | with_reducible refine Below.alloc ?_ (by first | omega | (simp; done) | (simp; omega)) _ | with_reducible refine Below.drew ?_ | with_reducible refine Ext.on _ ?_ (by first | omega | (simp; done) | (simp; omega))
      · have b1 : (k == 1) = false := by simpa using h1
        have b2 : (k == 2) = false := by simpa using h2
        have b3 : (k == 3) = false := by simpa using h3
        have H1 : Hid (cOp k = 1 ∧ cTy k t = t ∧ cNum k n = 0 ∧ cTxt k s = ⟨#[]⟩) := Lib.hid (by simp [cOp, cTy, cNum, cTxt, h1, h2, h3])
        clear h1 h2 h3
        go_enter Tryd.func21, Tryd.ntmps21
        go_wp2_with fail
        all_goals
          refine ret_ex rfl ?_
          obtain ⟨e1, e2, e3, e4⟩ := H1.out
          simp [results, Tryd.results21, go_sem, e1, e2, e3, e4]
          refine Cls.of ?_
          repeat first | with_reducible exact Below.refl _ _ | with_reducible refine Below.setCell ?_ (by first | omega | (simp; done) | (simp; omega)) _ | with_reducible refine Below.alloc ?_ (by first | omega | (simp; done) | (simp; omega)) _ | with_reducible refine Below.drew ?_ | with_reducible refine Ext.on _ ?_ (by first | omega | (simp; done) | (simp; omega))
end Go.Proofs.YtkmpaonakhfcjaaDoor
