/-
  Constants, and the walk of the law ExpressionSame: it returns true for every two expressions, every value and every type.
-/
import Derived.Test.YtmjaieceknhnbaaFew
import Derived.Test.YtmjaieceknhnbaaSame
import Derived.Test.YtmjaieceknhnbaaShift
import Derived.Test.YtmjaieceknhnbaaLin
import Derived.Deep.RegionWith
set_option linter.unusedVariables false
namespace Go.Proofs.Ytmjaieceknhnbaa
open Go Go.RowKit
def cOp (k : Int) : Int := if k = 1 then 2 else if k = 2 then 3 else if k = 3 then 4 else 1
def cTy (k t : Int) : Int := if k = 1 then 0 else if k = 2 then 0 else if k = 3 then 0 else t
def cNum (k n : Int) : Int := if k = 1 then n else if k = 2 then n else 0
def cTxt (k : Int) (s : ByteArray) : ByteArray := if k = 3 then s else ⟨#[]⟩
set_option maxHeartbeats 1000000 in
theorem Constant_calls (k n : Int) (s : ByteArray) (t : Int) (w : World) :
    Calls Try.prog 13 #[.agg #[.int .i64 k, .int .i64 n, .string s], .int .i64 t] w fun r w' => r = .returned (.agg #[.int .i64 (cOp k), .int .i64 (cTy k t), .int .i64 (cNum k n), .string (cTxt k s), .int .i64 0, .slice none 0 0]) ∧ Cls w w' := by
  by_cases h1 : k = 1
  · subst h1
    go_enter Try.func13, Try.ntmps13
    go_wp2_with fail
    all_goals
      refine ret_ex rfl ?_
      simp [results, Try.results13, go_sem]
      refine ⟨⟨rfl, rfl, rfl, rfl⟩, Cls.of ?_⟩
      repeat first | with_reducible exact Below.refl _ _ | with_reducible refine Below.setCell ?_ (by first | omega | (simp; done) | (simp; omega)) _ | with_reducible refine Below.alloc ?_ (by first | omega | (simp; done) | (simp; omega)) _ | with_reducible refine Below.drew ?_ | with_reducible refine Ext.on _ ?_ (by first | omega | (simp; done) | (simp; omega))
  · by_cases h2 : k = 2
    · subst h2
      go_enter Try.func13, Try.ntmps13
      go_wp2_with fail
      all_goals
        refine ret_ex rfl ?_
        simp [results, Try.results13, go_sem]
        refine ⟨⟨rfl, rfl, rfl, rfl⟩, Cls.of ?_⟩
        repeat first | with_reducible exact Below.refl _ _ | with_reducible refine Below.setCell ?_ (by first | omega | (simp; done) | (simp; omega)) _ | with_reducible refine Below.alloc ?_ (by first | omega | (simp; done) | (simp; omega)) _ | with_reducible refine Below.drew ?_ | with_reducible refine Ext.on _ ?_ (by first | omega | (simp; done) | (simp; omega))
    · by_cases h3 : k = 3
      · subst h3
        go_enter Try.func13, Try.ntmps13
        go_wp2_with fail
        all_goals
          refine ret_ex rfl ?_
          simp [results, Try.results13, go_sem]
          refine ⟨⟨rfl, rfl, rfl, rfl⟩, Cls.of ?_⟩
          repeat first | with_reducible exact Below.refl _ _ | with_reducible refine Below.setCell ?_ (by first | omega | (simp; done) | (simp; omega)) _ | with_reducible refine Below.alloc ?_ (by first | omega | (simp; done) | (simp; omega)) _ | with_reducible refine Below.drew ?_ | with_reducible refine Ext.on _ ?_ (by first | omega | (simp; done) | (simp; omega))
      · have b1 : (k == 1) = false := by simpa using h1
        have b2 : (k == 2) = false := by simpa using h2
        have b3 : (k == 3) = false := by simpa using h3
        have H1 : Hid (cOp k = 1 ∧ cTy k t = t ∧ cNum k n = 0 ∧ cTxt k s = ⟨#[]⟩) := Lib.hid (by simp [cOp, cTy, cNum, cTxt, h1, h2, h3])
        clear h1 h2 h3
        go_enter Try.func13, Try.ntmps13
        go_wp2_with fail
        all_goals
          refine ret_ex rfl ?_
          obtain ⟨e1, e2, e3, e4⟩ := H1.out
          simp [results, Try.results13, go_sem, e1, e2, e3, e4]
          refine Cls.of ?_
          repeat first | with_reducible exact Below.refl _ _ | with_reducible refine Below.setCell ?_ (by first | omega | (simp; done) | (simp; omega)) _ | with_reducible refine Below.alloc ?_ (by first | omega | (simp; done) | (simp; omega)) _ | with_reducible refine Below.drew ?_ | with_reducible refine Ext.on _ ?_ (by first | omega | (simp; done) | (simp; omega))
set_option maxHeartbeats 1000000 in
theorem rConstant_calls (k n : Int) (s : ByteArray) (t : Int) (w : World) :
    Calls Try.prog 14 #[.agg #[.int .i64 k, .int .i64 n, .string s], .int .i64 t] w fun r w' => r = .returned (.agg #[.int .i64 (cOp k), .int .i64 (cTy k t), .int .i64 (cNum k n), .string (cTxt k s), .int .i64 0, .slice none 0 0]) ∧ Cls w w' := by
  by_cases h1 : k = 1
  · subst h1
    go_enter Try.func14, Try.ntmps14
    go_wp2_with fail
    all_goals
      refine ret_ex rfl ?_
      simp [results, Try.results14, go_sem]
      refine ⟨⟨rfl, rfl, rfl, rfl⟩, Cls.of ?_⟩
      repeat first | with_reducible exact Below.refl _ _ | with_reducible refine Below.setCell ?_ (by first | omega | (simp; done) | (simp; omega)) _ | with_reducible refine Below.alloc ?_ (by first | omega | (simp; done) | (simp; omega)) _ | with_reducible refine Below.drew ?_ | with_reducible refine Ext.on _ ?_ (by first | omega | (simp; done) | (simp; omega))
  · by_cases h2 : k = 2
    · subst h2
      go_enter Try.func14, Try.ntmps14
      go_wp2_with fail
      all_goals
        refine ret_ex rfl ?_
        simp [results, Try.results14, go_sem]
        refine ⟨⟨rfl, rfl, rfl, rfl⟩, Cls.of ?_⟩
        repeat first | with_reducible exact Below.refl _ _ | with_reducible refine Below.setCell ?_ (by first | omega | (simp; done) | (simp; omega)) _ | with_reducible refine Below.alloc ?_ (by first | omega | (simp; done) | (simp; omega)) _ | with_reducible refine Below.drew ?_ | with_reducible refine Ext.on _ ?_ (by first | omega | (simp; done) | (simp; omega))
    · by_cases h3 : k = 3
      · subst h3
        go_enter Try.func14, Try.ntmps14
        go_wp2_with fail
        all_goals
          refine ret_ex rfl ?_
          simp [results, Try.results14, go_sem]
          refine ⟨⟨rfl, rfl, rfl, rfl⟩, Cls.of ?_⟩
          repeat first | with_reducible exact Below.refl _ _ | with_reducible refine Below.setCell ?_ (by first | omega | (simp; done) | (simp; omega)) _ | with_reducible refine Below.alloc ?_ (by first | omega | (simp; done) | (simp; omega)) _ | with_reducible refine Below.drew ?_ | with_reducible refine Ext.on _ ?_ (by first | omega | (simp; done) | (simp; omega))
      · have b1 : (k == 1) = false := by simpa using h1
        have b2 : (k == 2) = false := by simpa using h2
        have b3 : (k == 3) = false := by simpa using h3
        have H1 : Hid (cOp k = 1 ∧ cTy k t = t ∧ cNum k n = 0 ∧ cTxt k s = ⟨#[]⟩) := Lib.hid (by simp [cOp, cTy, cNum, cTxt, h1, h2, h3])
        clear h1 h2 h3
        go_enter Try.func14, Try.ntmps14
        go_wp2_with fail
        all_goals
          refine ret_ex rfl ?_
          obtain ⟨e1, e2, e3, e4⟩ := H1.out
          simp [results, Try.results14, go_sem, e1, e2, e3, e4]
          refine Cls.of ?_
          repeat first | with_reducible exact Below.refl _ _ | with_reducible refine Below.setCell ?_ (by first | omega | (simp; done) | (simp; omega)) _ | with_reducible refine Below.alloc ?_ (by first | omega | (simp; done) | (simp; omega)) _ | with_reducible refine Below.drew ?_ | with_reducible refine Ext.on _ ?_ (by first | omega | (simp; done) | (simp; omega))
theorem slim_of_few : ∀ (e : Ex) (d : Nat), fewB e d = true → Slim e := by
  refine Ex.ind fun e ih => ?_
  intro d h
  rw [fewB_eq] at h
  split at h
  · cases h
  · split at h
    · cases h
    · split at h
      · cases h
      · have key : ∀ l : List Ex, fewL l (d + 1) = true → ∀ k ∈ l, fewB k (d + 1) = true := by
          intro l
          induction l with
          | nil => intro _ k hk; simp at hk
          | cons x r ih2 =>
            intro hl k hk
            rw [fewL] at hl
            split at hl
            · rcases List.mem_cons.1 hk with rfl | hk
              · assumption
              · exact ih2 hl k hk
            · cases hl
        exact .mk e (by omega) fun k hk => ih k hk (d + 1) (key _ h k hk)
theorem slim_of_big {e : Ex} (h : bigB e = true) : Slim e := by
  unfold bigB at h
  split at h
  · exact slim_of_few e 0 (by assumption)
  · cases h
theorem wrap64_id {c : Int} (h : (Lit.int .i64 c).wf = true) : wrap64 (c + 0) = c := by
  have h1 : IntKind.i64.min = -9223372036854775808 := by decide
  have h2 : IntKind.i64.max = 9223372036854775807 := by decide
  simp only [Lit.wf, Bool.and_eq_true, decide_eq_true_eq] at h
  rw [h1, h2] at h
  unfold wrap64
  omega
theorem ext_ext : ∀ (a b : Ex), a.op = b.op → a.ty = b.ty → a.num = b.num → a.text = b.text → a.col = b.col → a.kids = b.kids → a = b
  | .mk _ _ _ _ _ _, .mk _ _ _ _ _ _, rfl, rfl, rfl, rfl, rfl, rfl => rfl
theorem shift_zero : ∀ (e : Ex) (w : World) (ok : Nat → Prop) (a : Option Addr) (len cap : Nat), e.fine → Kids w ok a len cap e.kids → shiftE e 0 = e := by
  refine Ex.ind fun e ih => ?_
  intro w ok a len cap hf hk
  have hkids : (shiftE e 0).kids = e.kids := by
    rw [shiftE_kids]
    refine List.ext_getElem (by simp) fun i h1 h2 => ?_
    have hl := hk.len_eq
    obtain ⟨a', len', cap', _, hf', hk'⟩ := hk.at_ (i := i) (by omega)
    have hg : e.kids.getD i Ex.z = e.kids[i] := by simp [List.getD, h2]
    rw [hg] at hf' hk'
    rw [List.getElem_map]
    exact ih _ (List.getElem_mem h2) w ok a' len' cap' hf' hk'
  refine ext_ext _ _ (shiftE_op _ _) (shiftE_ty _ _) (shiftE_num _ _) (shiftE_text _ _) ?_ hkids
  rw [shiftE_col]
  split
  · exact wrap64_id hf.2.2.2.2
  · rfl
set_option maxHeartbeats 4000000 in
set_option maxRecDepth 100000 in
theorem same_yes (e : Ex) (a : Option Addr) (len cap : Nat) (e' : Ex) (a' : Option Addr) (len' cap' : Nat) (k n : Int) (s : ByteArray) (t : Int) (w : World) (hf : e.fine) (hk : Kids w (fun _ => True) a len cap e.kids) (hf' : e'.fine) (hk' : Kids w (fun _ => True) a' len' cap' e'.kids)
    (hb : bigB e = true) (hb' : bigB e' = true) :
    Calls Try.prog 4 #[.agg #[.int .i64 e.op, .int .i64 e.ty, .int .i64 e.num, .string e.text, .int .i64 e.col, .slice a len cap], .agg #[.int .i64 e'.op, .int .i64 e'.ty, .int .i64 e'.num, .string e'.text, .int .i64 e'.col, .slice a' len' cap'], .agg #[.int .i64 k, .int .i64 n, .string s], .int .i64 t] w fun r w' => r = .returned (.bool true) ∧ Below w.heap.size w w' := by
  have F1 : Hid (∀ W, Below w.heap.size w W → Calls Try.prog 5 #[.agg #[.int .i64 e.op, .int .i64 e.ty, .int .i64 e.num, .string e.text, .int .i64 e.col, .slice a len cap]] W fun r w' => r = .returned (.bool true) ∧ Cls W w') := Lib.hid (fun W hW => by have := Few_calls e a len cap _ W (hk.later hW) hf.2.2.2.1; rw [hb] at this; exact this)
  have F2 : Hid (∀ W, Below w.heap.size w W → Calls Try.prog 5 #[.agg #[.int .i64 e'.op, .int .i64 e'.ty, .int .i64 e'.num, .string e'.text, .int .i64 e'.col, .slice a' len' cap']] W fun r w' => r = .returned (.bool true) ∧ Cls W w') := Lib.hid (fun W hW => by have := Few_calls e' a' len' cap' _ W (hk'.later hW) hf'.2.2.2.1; rw [hb'] at this; exact this)
  have S1 : Hid (∀ W, Below w.heap.size w W → Calls Try.prog 12 #[.agg #[.int .i64 e.op, .int .i64 e.ty, .int .i64 e.num, .string e.text, .int .i64 e.col, .slice a len cap], .agg #[.int .i64 e'.op, .int .i64 e'.ty, .int .i64 e'.num, .string e'.text, .int .i64 e'.col, .slice a' len' cap']] W fun r w' => r = .returned (.bool (sameE e e')) ∧ Cls W w') := Lib.hid (fun W hW => Same_calls e e' a len cap a' len' cap' _ _ W (hk.later hW) (hk'.later hW))
  have S2 : Hid (∀ W, Below w.heap.size w W → Calls Try.prog 10 #[.agg #[.int .i64 e.op, .int .i64 e.ty, .int .i64 e.num, .string e.text, .int .i64 e.col, .slice a len cap], .agg #[.int .i64 e'.op, .int .i64 e'.ty, .int .i64 e'.num, .string e'.text, .int .i64 e'.col, .slice a' len' cap']] W fun r w' => r = .returned (.bool (sameE e e')) ∧ Cls W w') := Lib.hid (fun W hW => rSame_calls e e' a len cap a' len' cap' _ _ W (hk.later hW) (hk'.later hW))
  have S3 : Hid (∀ W, Below w.heap.size w W → Calls Try.prog 12 #[.agg #[.int .i64 e.op, .int .i64 e.ty, .int .i64 e.num, .string e.text, .int .i64 e.col, .slice a len cap], .agg #[.int .i64 e.op, .int .i64 e.ty, .int .i64 e.num, .string e.text, .int .i64 e.col, .slice a len cap]] W fun r w' => r = .returned (.bool true) ∧ Cls W w') := Lib.hid (fun W hW => by have := Same_calls e e a len cap a len cap _ _ W (hk.later hW) (hk.later hW); rw [sameE_self] at this; exact this)
  have H1 : Hid (∀ W, Below w.heap.size w W → Calls Try.prog 6 #[.agg #[.int .i64 e.op, .int .i64 e.ty, .int .i64 e.num, .string e.text, .int .i64 e.col, .slice a len cap], .int .i64 0] W fun r w' => ShiftIs e 0 len W r w') := Lib.hid (fun W hW => Shift_calls e 0 a len cap _ W (hk.later hW) (slim_of_big hb))
  have S4 : Hid (∀ W a2 cap2 ok, Below w.heap.size w W → Kids W ok a2 len cap2 (shiftE e 0).kids → Calls Try.prog 12 #[.agg #[.int .i64 e.op, .int .i64 e.ty, .int .i64 e.num, .string e.text, .int .i64 e.col, .slice a len cap], .agg #[.int .i64 (shiftE e 0).op, .int .i64 (shiftE e 0).ty, .int .i64 (shiftE e 0).num, .string (shiftE e 0).text, .int .i64 (shiftE e 0).col, .slice a2 len cap2]] W fun r w' => r = .returned (.bool true) ∧ Cls W w') := Lib.hid (fun W a2 cap2 ok hW hk2 => by
    have := Same_calls e (shiftE e 0) a len cap a2 len cap2 _ _ W (hk.later hW) hk2
    rw [shift_zero e w _ a len cap hf hk, sameE_self] at this
    rw [shift_zero e w _ a len cap hf hk]
    exact this)
  have R1 : Hid (∀ W, Calls Try.prog 10 #[.agg #[.int .i64 (cOp k), .int .i64 (cTy k t), .int .i64 (cNum k n), .string (cTxt k s), .int .i64 0, .slice none 0 0], .agg #[.int .i64 (cOp k), .int .i64 (cTy k t), .int .i64 (cNum k n), .string (cTxt k s), .int .i64 0, .slice none 0 0]] W fun r w' => r = .returned (.bool true) ∧ Cls W w') := Lib.hid (fun W => by
    have := rSame_calls (.mk (cOp k) (cTy k t) (cNum k n) (cTxt k s) 0 []) (.mk (cOp k) (cTy k t) (cNum k n) (cTxt k s) 0 []) none 0 0 none 0 0 (fun _ => True) (fun _ => True) W .none .none
    rw [sameE_self] at this
    exact this)
  clear hk hk' hf hf' hb hb'
  go_enter Try.func4, Try.ntmps4
  go_wp2_with (first | (go_at_call_of 5 (Ex.op e'); ((with_reducible refine (Cls.call (F2.out _ (by repeat first | with_reducible exact Below.refl _ _ | with_reducible refine Below.setCell ?_ (by first | omega | (simp; done) | (simp; omega)) _ | with_reducible refine Below.alloc ?_ (by first | omega | (simp; done) | (simp; omega)) _ | with_reducible refine Below.drew ?_ | with_reducible refine Ext.on _ ?_ (by first | omega | (simp; done) | (simp; omega))))).mono ?_); rintro r _ ⟨rfl, y2, rfl⟩)) | (go_at_call 5; ((with_reducible refine (F1.out _ (by repeat first | with_reducible exact Below.refl _ _ | with_reducible refine Below.setCell ?_ (by first | omega | (simp; done) | (simp; omega)) _ | with_reducible refine Below.alloc ?_ (by first | omega | (simp; done) | (simp; omega)) _ | with_reducible refine Below.drew ?_ | with_reducible refine Ext.on _ ?_ (by first | omega | (simp; done) | (simp; omega)))).mono ?_); rintro r _ ⟨rfl, y, rfl⟩)))
  refine wp_region_lin_on (by kernel_rfl) (by kernel_rfl) ?_
  intro y0
  repeat first | (refine lin_calm rfl ?_; intro KK hKK; go_big_quiet_step (fail); refine wpQuiet_nil ?_; refine hKK _ ?_; clear hKK KK) | (refine lin_free rfl ?_; intro KK hKK; go_wp2_with (first |  (go_at_call_of 12 (Ex.op e'); ((with_reducible refine (Cls.call (S1.out _ (by repeat first | with_reducible exact Below.refl _ _ | with_reducible refine Below.setCell ?_ (by first | omega | (simp; done) | (simp; omega)) _ | with_reducible refine Below.alloc ?_ (by first | omega | (simp; done) | (simp; omega)) _ | with_reducible refine Below.drew ?_ | with_reducible refine Ext.on _ ?_ (by first | omega | (simp; done) | (simp; omega))))).mono ?_); rintro r _ ⟨rfl, y, rfl⟩)) | (go_at_call_of 12 (shiftE e 0); ((with_reducible refine (Cls.call (S4.out _ _ _ _ (by repeat first | with_reducible exact Below.refl _ _ | with_reducible refine Below.setCell ?_ (by first | omega | (simp; done) | (simp; omega)) _ | with_reducible refine Below.alloc ?_ (by first | omega | (simp; done) | (simp; omega)) _ | with_reducible refine Below.drew ?_ | with_reducible refine Ext.on _ ?_ (by first | omega | (simp; done) | (simp; omega))) HK2.out)).mono ?_); rintro r _ ⟨rfl, y, rfl⟩)) | (go_at_call 12; ((with_reducible refine (Cls.call (S3.out _ (by repeat first | with_reducible exact Below.refl _ _ | with_reducible refine Below.setCell ?_ (by first | omega | (simp; done) | (simp; omega)) _ | with_reducible refine Below.alloc ?_ (by first | omega | (simp; done) | (simp; omega)) _ | with_reducible refine Below.drew ?_ | with_reducible refine Ext.on _ ?_ (by first | omega | (simp; done) | (simp; omega))))).mono ?_); rintro r _ ⟨rfl, y, rfl⟩)) | (go_at_call_of 10 (Ex.op e'); ((with_reducible refine (Cls.call (S2.out _ (by repeat first | with_reducible exact Below.refl _ _ | with_reducible refine Below.setCell ?_ (by first | omega | (simp; done) | (simp; omega)) _ | with_reducible refine Below.alloc ?_ (by first | omega | (simp; done) | (simp; omega)) _ | with_reducible refine Below.drew ?_ | with_reducible refine Ext.on _ ?_ (by first | omega | (simp; done) | (simp; omega))))).mono ?_); rintro r _ ⟨rfl, y, rfl⟩)) | (go_at_call 10; ((with_reducible refine (Cls.call (R1.out _)).mono ?_); rintro r _ ⟨rfl, y, rfl⟩)) | (go_at_call 6; ((with_reducible refine (H1.out _ (by repeat first | with_reducible exact Below.refl _ _ | with_reducible refine Below.setCell ?_ (by first | omega | (simp; done) | (simp; omega)) _ | with_reducible refine Below.alloc ?_ (by first | omega | (simp; done) | (simp; omega)) _ | with_reducible refine Below.drew ?_ | with_reducible refine Ext.on _ ?_ (by first | omega | (simp; done) | (simp; omega)))).mono ?_); rintro r w2 hq; obtain ⟨a2, cap2, rfl, hk2, hc2⟩ := hq; have HK2 := Lib.hid hk2; obtain ⟨y, rfl⟩ := Cls.step _ hc2; clear hk2 hc2)) | (go_at_call 13; ((with_reducible refine (Cls.call (Constant_calls _ _ _ _ _)).mono ?_); rintro r _ ⟨rfl, y, rfl⟩)) | (go_at_call 14; ((with_reducible refine (Cls.call (rConstant_calls _ _ _ _ _)).mono ?_); rintro r _ ⟨rfl, y, rfl⟩)) ); refine hKK _ _ (.inr ⟨_, rfl⟩) ?_; clear hKK KK)
  refine lin_nil ?_
  go_wp2_with fail
  go_ret
  refine ⟨ret_bool ?_, ?_⟩
  · simp
  · repeat first | with_reducible exact Below.refl _ _ | with_reducible refine Below.setCell ?_ (by first | omega | (simp; done) | (simp; omega)) _ | with_reducible refine Below.alloc ?_ (by first | omega | (simp; done) | (simp; omega)) _ | with_reducible refine Below.drew ?_ | with_reducible refine Ext.on _ ?_ (by first | omega | (simp; done) | (simp; omega))
theorem expressionSame_walk (e : Ex) (a : Option Addr) (len cap : Nat) (e' : Ex) (a' : Option Addr) (len' cap' : Nat) (k n : Int) (s : ByteArray) (t : Int) (w : World) (hf : e.fine) (hk : Kids w (fun _ => True) a len cap e.kids) (hf' : e'.fine) (hk' : Kids w (fun _ => True) a' len' cap' e'.kids)
    (_ : (Lit.int .i64 k).wf = true) (_ : (Lit.int .i64 n).wf = true) (_ : s.size ≤ maxLen) (_ : (Lit.int .i64 t).wf = true) :
    Calls Try.prog 4 #[.agg #[.int .i64 e.op, .int .i64 e.ty, .int .i64 e.num, .string e.text, .int .i64 e.col, .slice a len cap], .agg #[.int .i64 e'.op, .int .i64 e'.ty, .int .i64 e'.num, .string e'.text, .int .i64 e'.col, .slice a' len' cap'], .agg #[.int .i64 k, .int .i64 n, .string s], .int .i64 t] w fun r w' => r = .returned (.bool true) ∧ Below w.heap.size w w' := by
  cases hb : bigB e
  case false =>
    have F1 : Hid (∀ W, Below w.heap.size w W → Calls Try.prog 5 #[.agg #[.int .i64 e.op, .int .i64 e.ty, .int .i64 e.num, .string e.text, .int .i64 e.col, .slice a len cap]] W fun r w' => r = .returned (.bool false) ∧ Cls W w') := Lib.hid (fun W hW => by have := Few_calls e a len cap _ W (hk.later hW) hf.2.2.2.1; rw [hb] at this; exact this)
    clear hk hk' hf hf' hb
    go_enter Try.func4, Try.ntmps4
    go_wp2_with (go_at_call 5; ((with_reducible refine (F1.out _ (by repeat first | with_reducible exact Below.refl _ _ | with_reducible refine Below.setCell ?_ (by first | omega | (simp; done) | (simp; omega)) _ | with_reducible refine Below.alloc ?_ (by first | omega | (simp; done) | (simp; omega)) _ | with_reducible refine Below.drew ?_ | with_reducible refine Ext.on _ ?_ (by first | omega | (simp; done) | (simp; omega)))).mono ?_); rintro r _ ⟨rfl, y, rfl⟩))
    go_ret
    refine ⟨ret_bool rfl, ?_⟩
    repeat first | with_reducible exact Below.refl _ _ | with_reducible refine Below.setCell ?_ (by first | omega | (simp; done) | (simp; omega)) _ | with_reducible refine Below.alloc ?_ (by first | omega | (simp; done) | (simp; omega)) _ | with_reducible refine Below.drew ?_ | with_reducible refine Ext.on _ ?_ (by first | omega | (simp; done) | (simp; omega))
  case true =>
    cases hb' : bigB e'
    case true => exact same_yes e a len cap e' a' len' cap' k n s t w hf hk hf' hk' hb hb'
    case false =>
      have F1 : Hid (∀ W, Below w.heap.size w W → Calls Try.prog 5 #[.agg #[.int .i64 e.op, .int .i64 e.ty, .int .i64 e.num, .string e.text, .int .i64 e.col, .slice a len cap]] W fun r w' => r = .returned (.bool true) ∧ Cls W w') := Lib.hid (fun W hW => by have := Few_calls e a len cap _ W (hk.later hW) hf.2.2.2.1; rw [hb] at this; exact this)
      have F2 : Hid (∀ W, Below w.heap.size w W → Calls Try.prog 5 #[.agg #[.int .i64 e'.op, .int .i64 e'.ty, .int .i64 e'.num, .string e'.text, .int .i64 e'.col, .slice a' len' cap']] W fun r w' => r = .returned (.bool false) ∧ Cls W w') := Lib.hid (fun W hW => by have := Few_calls e' a' len' cap' _ W (hk'.later hW) hf'.2.2.2.1; rw [hb'] at this; exact this)
      clear hk hk' hf hf' hb hb'
      go_enter Try.func4, Try.ntmps4
      go_wp2_with (first | (go_at_call_of 5 (Ex.op e'); ((with_reducible refine (Cls.call (F2.out _ (by repeat first | with_reducible exact Below.refl _ _ | with_reducible refine Below.setCell ?_ (by first | omega | (simp; done) | (simp; omega)) _ | with_reducible refine Below.alloc ?_ (by first | omega | (simp; done) | (simp; omega)) _ | with_reducible refine Below.drew ?_ | with_reducible refine Ext.on _ ?_ (by first | omega | (simp; done) | (simp; omega))))).mono ?_); rintro r _ ⟨rfl, y2, rfl⟩)) | (go_at_call 5; ((with_reducible refine (F1.out _ (by repeat first | with_reducible exact Below.refl _ _ | with_reducible refine Below.setCell ?_ (by first | omega | (simp; done) | (simp; omega)) _ | with_reducible refine Below.alloc ?_ (by first | omega | (simp; done) | (simp; omega)) _ | with_reducible refine Below.drew ?_ | with_reducible refine Ext.on _ ?_ (by first | omega | (simp; done) | (simp; omega)))).mono ?_); rintro r _ ⟨rfl, y, rfl⟩)))
      go_ret
      refine ⟨ret_bool rfl, ?_⟩
      repeat first | with_reducible exact Below.refl _ _ | with_reducible refine Below.setCell ?_ (by first | omega | (simp; done) | (simp; omega)) _ | with_reducible refine Below.alloc ?_ (by first | omega | (simp; done) | (simp; omega)) _ | with_reducible refine Below.drew ?_ | with_reducible refine Ext.on _ ?_ (by first | omega | (simp; done) | (simp; omega))
end Go.Proofs.Ytmjaieceknhnbaa
