/-
  Which expressions the laws look at, and the size of an expression, for all expressions.
-/
import Derived.Test.YtilnnpeknkjjmaaTree
import Derived.BigQuiet
set_option linter.unusedVariables false
namespace Go.Proofs.Ytilnnpeknkjjmaa
open Go Go.RowKit
mutual
def fewB : Ex → Nat → Bool
  | .mk _ _ _ t _ l, d => if 60 < d then false else if 12 < l.length then false else if 200 < t.size then false else fewL l (d + 1)
def fewL : List Ex → Nat → Bool
  | [], _ => true
  | k :: r, d => if fewB k d = true then fewL r d else false
end
theorem fewB_eq (e : Ex) (d : Nat) : fewB e d = if 60 < d then false else if 12 < e.kids.length then false else if 200 < e.text.size then false else fewL e.kids (d + 1) := by
  cases e; unfold fewB; rfl
mutual
def sizeW : Ex → Int
  | .mk _ _ _ _ _ l => sizeL l 1
def sizeL : List Ex → Int → Int
  | [], n => n
  | k :: r, n => sizeL r (wrap64 (n + sizeW k))
end
theorem sizeW_eq (e : Ex) : sizeW e = sizeL e.kids 1 := by
  cases e; simp only [sizeW, Ex.kids]
theorem fewL_go {l : List Ex} {j d : Nat} (h : j < l.length) (hk : fewB (l.getD j Ex.z) d = true) : fewL (l.drop j) d = fewL (l.drop (j + 1)) d := by
  rw [dropE h, fewL, if_pos hk]
theorem fewL_stop {l : List Ex} {j d : Nat} (h : j < l.length) (hk : fewB (l.getD j Ex.z) d = false) : fewL (l.drop j) d = false := by
  rw [dropE h, fewL, if_neg (by rw [hk]; exact Bool.false_ne_true)]
theorem sizeL_go {l : List Ex} {j : Nat} {n : Int} (h : j < l.length) : sizeL (l.drop j) n = sizeL (l.drop (j + 1)) (wrap64 (n + sizeW (l.getD j Ex.z))) := by
  rw [dropE h, sizeL]

set_option maxHeartbeats 2000000 in
theorem few_calls : ∀ (e : Ex) (d : Nat) (a : Option Addr) (len cap : Nat) (ok : Nat → Prop) (w : World), Kids w ok a len cap e.kids → e.text.size ≤ maxLen → d ≤ 61 →
    Calls Try.prog 12 #[.agg #[.int .i64 e.op, .int .i64 e.ty, .int .i64 e.num, .string e.text, .int .i64 e.col, .slice a len cap], .int .i64 (d : Nat)] w fun r w' => r = .returned (.bool (fewB e d)) ∧ Cls w w' := by
  refine Ex.ind fun e ih => ?_
  intro d a len cap ok w hk ht hd
  have hlen := hk.len_eq
  have hle := hk.le
  have hmax := hk.max
  unfold maxLen at hmax ht
  by_cases h1 : 60 < d
  · have d1 : decide (60 < (d : Int)) = true := by simp; omega
    go_enter Try.func12, Try.ntmps12
    go_wp2_with fail
    all_goals
      go_ret
      refine ⟨ret_bool (by rw [fewB_eq, if_pos h1]), Cls.of ?_⟩
      repeat first | with_reducible exact Below.refl _ _ | with_reducible refine Below.setCell ?_ (by first | omega | (simp; done) | (simp; omega)) _ | with_reducible refine Below.alloc ?_ (by first | omega | (simp; done) | (simp; omega)) _ | with_reducible refine Below.drew ?_ | with_reducible refine Ext.on _ ?_ (by first | omega | (simp; done) | (simp; omega))
  · have d1 : decide (60 < (d : Int)) = false := by simp; omega
    by_cases h2 : 12 < len
    · have d2 : decide (12 < (len : Int)) = true := by simp; omega
      go_enter Try.func12, Try.ntmps12
      go_wp2_with fail
      all_goals
        go_ret
        refine ⟨ret_bool (by rw [fewB_eq, if_neg h1, if_pos (by omega)]), Cls.of ?_⟩
        repeat first | with_reducible exact Below.refl _ _ | with_reducible refine Below.setCell ?_ (by first | omega | (simp; done) | (simp; omega)) _ | with_reducible refine Below.alloc ?_ (by first | omega | (simp; done) | (simp; omega)) _ | with_reducible refine Below.drew ?_ | with_reducible refine Ext.on _ ?_ (by first | omega | (simp; done) | (simp; omega))
    · have d2 : decide (12 < (len : Int)) = false := by simp; omega
      by_cases h3 : 200 < e.text.size
      · have d3 : decide (200 < (e.text.size : Int)) = true := by simp; omega
        go_enter Try.func12, Try.ntmps12
        go_wp2_with fail
        all_goals
          go_ret
          refine ⟨ret_bool (by rw [fewB_eq, if_neg h1, if_neg (by omega), if_pos h3]), Cls.of ?_⟩
          repeat first | with_reducible exact Below.refl _ _ | with_reducible refine Below.setCell ?_ (by first | omega | (simp; done) | (simp; omega)) _ | with_reducible refine Below.alloc ?_ (by first | omega | (simp; done) | (simp; omega)) _ | with_reducible refine Below.drew ?_ | with_reducible refine Ext.on _ ?_ (by first | omega | (simp; done) | (simp; omega))
      · have d3 : decide (200 < (e.text.size : Int)) = false := by simp; omega
        have HL := Lib.hid hlen
        have HE : Hid (fewB e d = fewL e.kids (d + 1)) := Lib.hid (by rw [fewB_eq, if_neg h1, if_neg (by omega), if_neg h3])
        clear hlen
        go_enter Try.func12, Try.ntmps12
        go_wp2_with fail
        go_loopw [5] (fun i wr => ∃ j : Nat, j ≤ len ∧ i = .int .i64 j ∧ fewB e d = fewL (e.kids.drop j) (d + 1) ∧ Cls (w.alloc (.cells #[.int .i64 e.op, .int .i64 e.ty, .int .i64 e.num, .string e.text, .int .i64 e.col, .slice a len cap] 39)) wr) (fun i _ => len - (intOf i).toNat)
        case atStart => exact ⟨0, Nat.zero_le _, rfl, HE.out, Cls.of (Below.refl _ _)⟩
        case round =>
          clear HE
          obtain ⟨j, hj, rfl, he, x, rfl⟩ := hrel
          have HE := Lib.hid he
          clear he
          by_cases hlt : j < len
          · obtain ⟨a', len', cap', ⟨b, off, rfl, hb, hok, q0, q1, q2, q3, q4, q5⟩, hfine, hk'⟩ := hk.at_ hlt
            have hb1 : b < w.heap.size + 1 := by omega
            have hmem := getD_mem (l := e.kids) (i := j) (by rw [HL.out]; exact hlt)
            have HK : Hid (Kids x.val ok a' len' cap' (e.kids.getD j Ex.z).kids) := Lib.hid ((hk'.later ((Below.refl _ _).alloc (Nat.le_refl _) _)).later x.below)
            have HT : Hid ((e.kids.getD j Ex.z).text.size ≤ maxLen) := Lib.hid hfine.2.2.2.1
            have hd1 : (d : Int) + 1 = ((d + 1 : Nat) : Int) := by omega
            have C1 : Hid (Calls Try.prog 12 #[.agg #[.int .i64 (e.kids.getD j Ex.z).op, .int .i64 (e.kids.getD j Ex.z).ty, .int .i64 (e.kids.getD j Ex.z).num, .string (e.kids.getD j Ex.z).text, .int .i64 (e.kids.getD j Ex.z).col, .slice a' len' cap'], .int .i64 ((d : Int) + 1)] x.val fun r w' => r = .returned (.bool (fewB (e.kids.getD j Ex.z) (d + 1))) ∧ Cls x.val w') := Lib.hid (by rw [hd1]; exact ih _ hmem (d + 1) a' len' cap' ok x.val HK.out HT.out (by omega))
            clear hk hk' hfine hmem hd1 ih
            cases hb2 : fewB (e.kids.getD j Ex.z) (d + 1)
            all_goals
              have HB := Lib.hid hb2
              rw [hb2] at C1
              clear hb2
              go_wp2_with (go_at_call 12; ((refine (Cls.call C1.out).mono ?_); rintro r _ ⟨rfl, y, rfl⟩))
            · go_ret
              refine ⟨ret_bool (by rw [HE.out, fewL_stop (by rw [HL.out]; exact hlt) HB.out]), Cls.of ?_⟩
              repeat first | with_reducible exact Below.refl _ _ | with_reducible refine Below.setCell ?_ (by first | omega | (simp; done) | (simp; omega)) _ | with_reducible refine Below.alloc ?_ (by first | omega | (simp; done) | (simp; omega)) _ | with_reducible refine Below.drew ?_ | with_reducible refine Ext.on _ ?_ (by first | omega | (simp; done) | (simp; omega))
            · go_roundw
              case rel => exact ⟨j + 1, by omega, by go_num, by rw [HE.out, fewL_go (by rw [HL.out]; exact hlt) HB.out], y, rfl⟩
              case measure => simp [intOf]; omega
          · go_wp2_with fail
            go_ret
            refine ⟨ret_bool (by rw [HE.out, List.drop_of_length_le (by rw [HL.out]; omega), fewL]), Cls.of ?_⟩
            repeat first | with_reducible exact Below.refl _ _ | with_reducible refine Below.setCell ?_ (by first | omega | (simp; done) | (simp; omega)) _ | with_reducible refine Below.alloc ?_ (by first | omega | (simp; done) | (simp; omega)) _ | with_reducible refine Below.drew ?_ | with_reducible refine Ext.on _ ?_ (by first | omega | (simp; done) | (simp; omega))
set_option maxHeartbeats 2000000 in
theorem Size_calls : ∀ (e : Ex) (a : Option Addr) (len cap : Nat) (ok : Nat → Prop) (w : World), Kids w ok a len cap e.kids →
    Calls Try.prog 13 #[.agg #[.int .i64 e.op, .int .i64 e.ty, .int .i64 e.num, .string e.text, .int .i64 e.col, .slice a len cap]] w fun r w' => r = .returned (.int .i64 (sizeW e)) ∧ Cls w w' := by
  refine Ex.ind fun e ih => ?_
  intro a len cap ok w hk
  have hlen := hk.len_eq
  have hle := hk.le
  have hmax := hk.max
  unfold maxLen at hmax
  have HL := Lib.hid hlen
  have HE : Hid (sizeW e = sizeL e.kids 1) := Lib.hid (sizeW_eq e)
  clear hlen
  go_enter Try.func13, Try.ntmps13
  go_wp2_with fail
  go_loopw [3, 4] (fun n i wr => ∃ (j : Nat) (m : Int), j ≤ len ∧ i = .int .i64 j ∧ n = .int .i64 m ∧ sizeW e = sizeL (e.kids.drop j) m ∧ Cls (w.alloc (.cells #[.int .i64 e.op, .int .i64 e.ty, .int .i64 e.num, .string e.text, .int .i64 e.col, .slice a len cap] 39)) wr) (fun _ i _ => len - (intOf i).toNat)
  case atStart => exact ⟨0, 1, Nat.zero_le _, rfl, rfl, HE.out, Cls.of (Below.refl _ _)⟩
  case round =>
    clear HE
    obtain ⟨j, m, hj, rfl, rfl, he, x, rfl⟩ := hrel
    have HE := Lib.hid he
    clear he
    by_cases hlt : j < len
    · obtain ⟨a', len', cap', ⟨b, off, rfl, hb, hok, q0, q1, q2, q3, q4, q5⟩, hfine, hk'⟩ := hk.at_ hlt
      have hb1 : b < w.heap.size + 1 := by omega
      have hmem := getD_mem (l := e.kids) (i := j) (by rw [HL.out]; exact hlt)
      have HK : Hid (Kids x.val ok a' len' cap' (e.kids.getD j Ex.z).kids) := Lib.hid ((hk'.later ((Below.refl _ _).alloc (Nat.le_refl _) _)).later x.below)
      have C1 := Lib.hid (ih _ hmem a' len' cap' ok x.val HK.out)
      clear hk hk' hfine hmem ih
      go_wp2_with (go_at_call 13; ((refine (Cls.call C1.out).mono ?_); rintro r _ ⟨rfl, y, rfl⟩))
      go_roundw
      case rel => exact ⟨j + 1, _, by omega, by go_num, rfl, by rw [HE.out, sizeL_go (by rw [HL.out]; exact hlt)]; rfl, y, rfl⟩
      case measure => simp [intOf]; omega
    · go_wp2_with fail
      go_ret
      refine ⟨ret_int (by rw [HE.out, List.drop_of_length_le (by rw [HL.out]; omega), sizeL]), Cls.of ?_⟩
      repeat first | with_reducible exact Below.refl _ _ | with_reducible refine Below.setCell ?_ (by first | omega | (simp; done) | (simp; omega)) _ | with_reducible refine Below.alloc ?_ (by first | omega | (simp; done) | (simp; omega)) _ | with_reducible refine Below.drew ?_ | with_reducible refine Ext.on _ ?_ (by first | omega | (simp; done) | (simp; omega))
theorem fewL_depth : ∀ (e : Ex) (d : Nat), fewB e d = true → d ≤ 60 := by
  intro e d h
  rw [fewB_eq] at h
  split at h
  · cases h
  · omega
def bigB (e : Ex) : Bool := if fewB e 0 = true then decide (sizeW e ≤ 600) else false
set_option maxHeartbeats 1000000 in
theorem Few_calls (e : Ex) (a : Option Addr) (len cap : Nat) (ok : Nat → Prop) (w : World) (hk : Kids w ok a len cap e.kids) (ht : e.text.size ≤ maxLen) :
    Calls Try.prog 8 #[.agg #[.int .i64 e.op, .int .i64 e.ty, .int .i64 e.num, .string e.text, .int .i64 e.col, .slice a len cap]] w fun r w' => r = .returned (.bool (bigB e)) ∧ Cls w w' := by
  have HK := Lib.hid hk
  have C1 : Hid (∀ x : Ext (w.alloc (.cells #[.int .i64 e.op, .int .i64 e.ty, .int .i64 e.num, .string e.text, .int .i64 e.col, .slice a len cap] 39)), Calls Try.prog 12 #[.agg #[.int .i64 e.op, .int .i64 e.ty, .int .i64 e.num, .string e.text, .int .i64 e.col, .slice a len cap], .int .i64 0] x.val fun r w' => r = .returned (.bool (fewB e 0)) ∧ Cls x.val w') := Lib.hid (fun x => few_calls e 0 a len cap ok x.val ((HK.out.later ((Below.refl _ _).alloc (Nat.le_refl _) _)).later x.below) ht (by omega))
  have C2 : Hid (∀ x : Ext (w.alloc (.cells #[.int .i64 e.op, .int .i64 e.ty, .int .i64 e.num, .string e.text, .int .i64 e.col, .slice a len cap] 39)), Calls Try.prog 13 #[.agg #[.int .i64 e.op, .int .i64 e.ty, .int .i64 e.num, .string e.text, .int .i64 e.col, .slice a len cap]] x.val fun r w' => r = .returned (.int .i64 (sizeW e)) ∧ Cls x.val w') := Lib.hid (fun x => Size_calls e a len cap ok x.val ((HK.out.later ((Below.refl _ _).alloc (Nat.le_refl _) _)).later x.below))
  have HB : bigB e = if fewB e 0 = true then decide (sizeW e ≤ 600) else false := rfl
  clear hk ht
  cases hf : fewB e 0
  all_goals
    rw [hf] at C1 HB
    have HF := Lib.hid HB
    clear HB hf
    go_enter Try.func8, Try.ntmps8
    go_wp2_with (first | (go_at_call 12; ((refine (C1.out ⟨_, Below.refl _ _⟩).mono ?_); rintro r _ ⟨rfl, y, rfl⟩)) | (go_at_call 13; ((refine (Cls.call (C2.out _)).mono ?_); rintro r _ ⟨rfl, y2, rfl⟩)))
    go_ret
    refine ⟨ret_bool ?_, Cls.of ?_⟩
    · rw [HF.out]; simp
    · repeat first | with_reducible exact Below.refl _ _ | with_reducible refine Below.setCell ?_ (by first | omega | (simp; done) | (simp; omega)) _ | with_reducible refine Below.alloc ?_ (by first | omega | (simp; done) | (simp; omega)) _ | with_reducible refine Below.drew ?_ | with_reducible refine Ext.on _ ?_ (by first | omega | (simp; done) | (simp; omega))
end Go.Proofs.Ytilnnpeknkjjmaa
