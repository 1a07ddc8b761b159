/-
  A schema as an argument.
-/
import Derived.Test.YtdmhmlnfoocnjaaGreatDoorK01
import Derived.RowKit3
import Derived.Lib.Strings
import Derived.Test.YtdmhmlnfoocnjaaGreatDoorChecked
import Derived.BigQuiet
set_option linter.unusedVariables false
namespace Go.Proofs.YtdmhmlnfoocnjaaGreatDoor
open Go Go.RowKit Go.ChangeShapes Go.WideShapes Go.Joins Go.Deep
theorem SlAt.congr {w : World} {k : Nat} {s : Sl} {c c' : Nat → List Value} (h : SlAt w k s c) (he : ∀ i, i < s.len → c i = c' i) : SlAt w k s c' := by
  refine ⟨h.1, h.2.1, h.2.2.1, fun i hi => ?_⟩
  obtain ⟨b, off, ha, hlt, hc⟩ := h.2.2.2 i hi
  exact ⟨b, off, ha, hlt, fun j hj => by rw [← he i hi]; exact hc j hj⟩
structure Cl where
  name : ByteArray
  ty : Int
  null : Bool
instance : Inhabited Cl := ⟨⟨ByteArray.empty, 0, false⟩⟩
instance : Inhabited Sl := ⟨Sl.z⟩
def Cl.cells (c : Cl) : List Value := [.string c.name, .int .i64 c.ty, .bool c.null]
structure Tb where
  name : ByteArray
  cs : Sl
  col : Nat → Cl
  ps : Sl
  prim : Nat → Int
  us : Sl
  uq : Nat → Sl
  uqn : Nat → Nat → Int
  fs : Sl
  fk : Nat → Sl
  fkn : Nat → Nat → Int
  fkt : Nat → ByteArray
  ks : Sl
  checks : List Ex
instance : Inhabited Tb := ⟨⟨ByteArray.empty, Sl.z, fun _ => default, Sl.z, fun _ => 0, Sl.z, fun _ => Sl.z, fun _ _ => 0, Sl.z, fun _ => Sl.z, fun _ _ => 0, fun _ => ByteArray.empty, Sl.z, []⟩⟩
def Tb.cells (t : Tb) : List Value := [.string t.name, t.cs.v, t.ps.v, t.us.v, t.fs.v, t.ks.v]
def intC (f : Nat → Int) (i : Nat) : List Value := [.int .i64 (f i)]
structure TbAt (w : World) (t : Tb) : Prop where
  name : t.name.size ≤ maxLen
  cols : SlAt w 3 t.cs fun i => (t.col i).cells
  colf : ∀ i, i < t.cs.len → (t.col i).name.size ≤ maxLen ∧ (Lit.int .i64 (t.col i).ty).wf = true
  prim : SlAt w 1 t.ps (intC t.prim)
  uqs : SlAt w 1 t.us fun i => [(t.uq i).v]
  uqn : ∀ i, i < t.us.len → SlAt w 1 (t.uq i) (intC (t.uqn i))
  fks : SlAt w 2 t.fs fun i => [(t.fk i).v, .string (t.fkt i)]
  fkn : ∀ i, i < t.fs.len → SlAt w 1 (t.fk i) (intC (t.fkn i)) ∧ (t.fkt i).size ≤ maxLen
  kids : Kids w (fun _ => True) t.ks.a t.ks.len t.ks.cap t.checks
theorem TbAt.later {w w' : World} {t : Tb} (h : TbAt w t) (hb : Below w.heap.size w w') : TbAt w' t :=
  ⟨h.name, h.cols.later hb, h.colf, h.prim.later hb, h.uqs.later hb, fun i hi => (h.uqn i hi).later hb, h.fks.later hb, fun i hi => ⟨(h.fkn i hi).1.later hb, (h.fkn i hi).2⟩, h.kids.later hb⟩
def TabsAt (w : World) (s : Sl) (tb : Nat → Tb) : Prop := SlAt w 6 s (fun i => (tb i).cells) ∧ ∀ i, i < s.len → TbAt w (tb i)
theorem TabsAt.later {w w' : World} {s : Sl} {tb : Nat → Tb} (h : TabsAt w s tb) (hb : Below w.heap.size w w') : TabsAt w' s tb := ⟨h.1.later hb, fun i hi => (h.2 i hi).later hb⟩
section
variable {H : Type} {enc : TypeId × Value → H} {w : World} {base : Nat} {spare : Nat → Bool} {held : Bool}
end
end Go.Proofs.YtdmhmlnfoocnjaaGreatDoor
namespace Go.Proofs.YtdmhmlnfoocnjaaGreatDoor
open Go

def truT (k n : Int) : Int := if k = 2 then if n = 1 then 1 else 0 else 2
def tvK (t : Int) : Int := if t = 0 then 2 else if t = 1 then 2 else 0
def tvN (t : Int) : Int := if t = 1 then 1 else 0
def andT (a b : Int) : Int := if a = 0 then 0 else if b = 0 then 0 else if a = 2 then 2 else if b = 2 then 2 else 1
def orT (a b : Int) : Int := if a = 1 then 1 else if b = 1 then 1 else if a = 2 then 2 else if b = 2 then 2 else 0
def notT (a : Int) : Int := if a = 0 then 1 else if a = 1 then 0 else 2

theorem truT_cases (k n : Int) : truT k n = 0 ∨ truT k n = 1 ∨ truT k n = 2 := by
  unfold truT; split <;> (try split) <;> simp
/-! ### The order of values -/
def cmpI (a b : Int) : Int := if a < b then -1 else if b < a then 1 else 0
def cmpS (s t : ByteArray) : Int := if Op.bytesLess s.toList t.toList = true then -1 else if s.toList = t.toList then 0 else 1
def cmpV (k n : Int) (s : ByteArray) (k' n' : Int) (s' : ByteArray) : Int := if k = k' then if n = n' then cmpS s s' else cmpI n n' else cmpI k k'

theorem toList_inj {s t : ByteArray} (h : s.toList = t.toList) : s = t := by
  rw [Lib.toList_data, Lib.toList_data] at h
  cases s; cases t; simpa [← Array.toList_inj] using h
theorem less_eq (x : List UInt8) : ∀ y, Op.bytesLess x y = decide (x < y) := by
  induction x with
  | nil => intro y; cases y <;> simp [Op.bytesLess]
  | cons a x ih =>
    intro y
    cases y with
    | nil => simp [Op.bytesLess]
    | cons b y =>
      simp only [Op.bytesLess, ih, List.cons_lt_cons_iff]
      by_cases h : a < b <;> by_cases h' : a = b <;> simp [h, h']
theorem less_irrefl (a : List UInt8) : Op.bytesLess a a = false := by
  rw [less_eq]; simp
theorem cmpI_zero {a b : Int} (h : cmpI a b = 0) : a = b := by unfold cmpI at h; split at h <;> (try split at h) <;> omega
theorem cmpS_self (s : ByteArray) : cmpS s s = 0 := by unfold cmpS; rw [less_irrefl]; simp
theorem cmpS_zero {s t : ByteArray} (h : cmpS s t = 0) : s = t := by
  unfold cmpS at h
  split at h
  · omega
  · split at h
    · exact toList_inj ‹_›
    · omega
theorem cmpV_self (k n : Int) (s : ByteArray) : cmpV k n s k n s = 0 := by simp [cmpV, cmpS_self]
theorem cmpV_zero {k n : Int} {s : ByteArray} {k' n' : Int} {s' : ByteArray} (h : cmpV k n s k' n' s' = 0) : k = k' ∧ n = n' ∧ s = s' := by
  unfold cmpV at h
  by_cases hk : k = k'
  · by_cases hn : n = n'
    · simp [hk, hn] at h; exact ⟨hk, hn, cmpS_zero h⟩
    · simp [hk, hn] at h; exact absurd (cmpI_zero h) hn
  · simp [hk] at h; exact absurd (cmpI_zero h) hk
def b2i (b : Bool) : Int := if b = true then 1 else 0
def sameB (k n : Int) (s : ByteArray) (k' n' : Int) (s' : ByteArray) : Bool := cmpV k n s k' n' s' == 0
theorem sameB_yes {k n : Int} {s : ByteArray} {k' n' : Int} {s' : ByteArray} (h : k = k') (h' : n = n') (h2 : s.toList = s'.toList) : sameB k n s k' n' s' = true := by
  obtain rfl := toList_inj h2; subst h h'; simp [sameB, cmpV_self]
theorem sameB_no {k n : Int} {s : ByteArray} {k' n' : Int} {s' : ByteArray} (h : ¬ (k = k' ∧ n = n' ∧ s.toList = s'.toList)) : sameB k n s k' n' s' = false := by
  cases h2 : sameB k n s k' n' s' with
  | false => rfl
  | true =>
    obtain ⟨rfl, rfl, rfl⟩ := cmpV_zero (by simpa [sameB] using h2)
    exact absurd ⟨rfl, rfl, rfl⟩ h
def eqT (k n : Int) (s : ByteArray) (k' n' : Int) (s' : ByteArray) : Int := if k = 0 then 2 else if k' = 0 then 2 else b2i (sameB k n s k' n' s')
def lessT (k n : Int) (s : ByteArray) (k' n' : Int) (s' : ByteArray) : Int := if k = 0 then 2 else if k' = 0 then 2 else b2i (decide (cmpV k n s k' n' s' < 0))

end Go.Proofs.YtdmhmlnfoocnjaaGreatDoor
namespace Go.Proofs.YtdmhmlnfoocnjaaGreatDoor
open Go Go.RowKit

theorem Truth_calls (k n : Int) (s : ByteArray) (w : World) :
    Calls Tryz.prog 87 #[.agg #[.int .i64 k, .int .i64 n, .string s]] w fun e w' => e = .returned (.int .i64 (truT k n)) ∧ Cls w w' := by
  go_enter Tryz.func87, Tryz.ntmps87
  go_wp2
  all_goals
    go_ret
    refine ⟨?_, Cls.of ((Below.refl _ _).alloc (Nat.le_refl _) _)⟩
    simp_all [truT]
theorem Bool_calls (n : Int) (w : World) :
    Calls Tryz.prog 138 #[.int .i64 n] w fun e w' => e = .returned (.agg #[.int .i64 (tvK n), .int .i64 (tvN n), .string ⟨#[]⟩]) ∧ Cls w w' := by
  go_enter Tryz.func138, Tryz.ntmps138
  go_wp2
  all_goals
    refine ret_ex rfl ?_
    simp [results, Tryz.results138, go_sem]
    refine ⟨?_, Cls.of ((Below.refl _ _).alloc (Nat.le_refl _) _)⟩
  all_goals simp_all [tvK, tvN]
  all_goals omega
theorem rBool_calls (n : Int) (w : World) :
    Calls Tryz.prog 70 #[.int .i64 n] w fun e w' => e = .returned (.agg #[.int .i64 (tvK n), .int .i64 (tvN n), .string ⟨#[]⟩]) ∧ Cls w w' := by
  go_enter Tryz.func70, Tryz.ntmps70
  go_wp2
  all_goals
    refine ret_ex rfl ?_
    simp [results, Tryz.results70, go_sem]
    refine ⟨?_, Cls.of ((Below.refl _ _).alloc (Nat.le_refl _) _)⟩
  all_goals simp_all [tvK, tvN]
  all_goals omega
end Go.Proofs.YtdmhmlnfoocnjaaGreatDoor
namespace Go.Proofs.YtdmhmlnfoocnjaaGreatDoor
open Go Go.RowKit

set_option maxHeartbeats 400000 in
theorem decide_and (a b : Int) (w : World) :
    Calls Tryz.prog 157 #[.int .i64 0, .int .i64 a, .int .i64 b] w fun e w' => e = .returned (.agg #[.int .i64 (tvK (andT a b)), .int .i64 (tvN (andT a b)), .string ⟨#[]⟩]) ∧ Cls w w' := by
  go_enter Tryz.func157, Tryz.ntmps157
  go_wp2_with (first | (go_at_call 138; refine (Bool_calls _ _).mono ?_; rintro e _ ⟨rfl, x, rfl⟩))
  all_goals
    refine ret_ex rfl ?_
    simp [results, Tryz.results157, go_sem]
    refine ⟨?_, ?_⟩
  all_goals first | (simp_all [tvK, tvN]; done) | (simp_all [tvK, tvN, andT]; done) | (simp_all [tvK, tvN]; omega) | skip
  all_goals
    refine Cls.of ?_
    repeat first | exact Below.refl _ _ | refine Below.setCell ?_ (by first | omega | (simp; done) | (simp; omega)) _ | refine Below.alloc ?_ (by first | omega | (simp; done) | (simp; omega)) _ | refine Below.drew ?_ | refine Ext.on _ ?_ (by first | omega | (simp; done) | (simp; omega))
set_option maxHeartbeats 400000 in
theorem decide_or (a b : Int) (w : World) :
    Calls Tryz.prog 157 #[.int .i64 1, .int .i64 a, .int .i64 b] w fun e w' => e = .returned (.agg #[.int .i64 (tvK (orT a b)), .int .i64 (tvN (orT a b)), .string ⟨#[]⟩]) ∧ Cls w w' := by
  go_enter Tryz.func157, Tryz.ntmps157
  go_wp2_with (first | (go_at_call 138; refine (Bool_calls _ _).mono ?_; rintro e _ ⟨rfl, x, rfl⟩))
  all_goals
    refine ret_ex rfl ?_
    simp [results, Tryz.results157, go_sem]
    refine ⟨?_, ?_⟩
  all_goals first | (simp_all [tvK, tvN]; done) | (simp_all [tvK, tvN, orT]; done) | (simp_all [tvK, tvN]; omega) | skip
  all_goals
    refine Cls.of ?_
    repeat first | exact Below.refl _ _ | refine Below.setCell ?_ (by first | omega | (simp; done) | (simp; omega)) _ | refine Below.alloc ?_ (by first | omega | (simp; done) | (simp; omega)) _ | refine Below.drew ?_ | refine Ext.on _ ?_ (by first | omega | (simp; done) | (simp; omega))
theorem And_calls (k n : Int) (s : ByteArray) (k' n' : Int) (s' : ByteArray) (w : World) :
    Calls Tryz.prog 148 #[.agg #[.int .i64 k, .int .i64 n, .string s], .agg #[.int .i64 k', .int .i64 n', .string s']] w fun e w' => e = .returned (.agg #[.int .i64 (tvK (andT (truT k n) (truT k' n'))), .int .i64 (tvN (andT (truT k n) (truT k' n'))), .string ⟨#[]⟩]) ∧ Cls w w' := by
  go_enter Tryz.func148, Tryz.ntmps148
  go_wp2
  refine wp_region_ext_tail 5 (by kernel_rfl) (by kernel_rfl) ?_
  simp only [List.take_succ_cons, List.take_zero, List.drop_succ_cons, List.drop_zero]
  repeat (go_big_quiet_step (first | (go_at_call 87; exact Cls.call (Truth_calls _ _ _ _)) | (go_at_call 157; exact Cls.call (decide_and _ _ _))))
  refine wpQuiet_nil ?_
  rintro _ ⟨x, rfl⟩
  go_wp2
  refine ret_ex rfl ?_
  simp [results, Tryz.results148, go_sem]
  refine Cls.of ?_
  repeat first | exact Below.refl _ _ | refine Below.setCell ?_ (by first | omega | (simp; done) | (simp; omega)) _ | refine Below.alloc ?_ (by first | omega | (simp; done) | (simp; omega)) _ | refine Below.drew ?_ | refine Ext.on _ ?_ (by first | omega | (simp; done) | (simp; omega))
theorem Or_calls (k n : Int) (s : ByteArray) (k' n' : Int) (s' : ByteArray) (w : World) :
    Calls Tryz.prog 139 #[.agg #[.int .i64 k, .int .i64 n, .string s], .agg #[.int .i64 k', .int .i64 n', .string s']] w fun e w' => e = .returned (.agg #[.int .i64 (tvK (orT (truT k n) (truT k' n'))), .int .i64 (tvN (orT (truT k n) (truT k' n'))), .string ⟨#[]⟩]) ∧ Cls w w' := by
  go_enter Tryz.func139, Tryz.ntmps139
  go_wp2
  refine wp_region_ext_tail 5 (by kernel_rfl) (by kernel_rfl) ?_
  simp only [List.take_succ_cons, List.take_zero, List.drop_succ_cons, List.drop_zero]
  repeat (go_big_quiet_step (first | (go_at_call 87; exact Cls.call (Truth_calls _ _ _ _)) | (go_at_call 157; exact Cls.call (decide_or _ _ _))))
  refine wpQuiet_nil ?_
  rintro _ ⟨x, rfl⟩
  go_wp2
  refine ret_ex rfl ?_
  simp [results, Tryz.results139, go_sem]
  refine Cls.of ?_
  repeat first | exact Below.refl _ _ | refine Below.setCell ?_ (by first | omega | (simp; done) | (simp; omega)) _ | refine Below.alloc ?_ (by first | omega | (simp; done) | (simp; omega)) _ | refine Below.drew ?_ | refine Ext.on _ ?_ (by first | omega | (simp; done) | (simp; omega))
set_option maxHeartbeats 400000 in
theorem Not_calls (k n : Int) (s : ByteArray) (w : World) :
    Calls Tryz.prog 145 #[.agg #[.int .i64 k, .int .i64 n, .string s]] w fun e w' => e = .returned (.agg #[.int .i64 (tvK (notT (truT k n))), .int .i64 (tvN (notT (truT k n))), .string ⟨#[]⟩]) ∧ Cls w w' := by
  have hT := truT_cases k n
  go_enter Tryz.func145, Tryz.ntmps145
  go_wp2_with (first | (go_at_call 87; refine (Truth_calls _ _ _ _).mono ?_; rintro e _ ⟨rfl, x, rfl⟩) | (go_at_call 138; with_reducible refine (Cls.call (Bool_calls _ _)).mono ?_; rintro e _ ⟨rfl, y, rfl⟩))
  all_goals
    refine ret_ex rfl ?_
    simp [results, Tryz.results145, go_sem]
    refine ⟨?_, ?_⟩
  all_goals first | (simp_all [tvK, tvN]; done) | (simp_all [tvK, tvN, notT]; done) | (simp_all [tvK, tvN, notT]; omega) | skip
  all_goals
    refine Cls.of ?_
    repeat first | exact Below.refl _ _ | refine Below.setCell ?_ (by first | omega | (simp; done) | (simp; omega)) _ | refine Below.alloc ?_ (by first | omega | (simp; done) | (simp; omega)) _ | refine Below.drew ?_ | refine Ext.on _ ?_ (by first | omega | (simp; done) | (simp; omega))
end Go.Proofs.YtdmhmlnfoocnjaaGreatDoor
