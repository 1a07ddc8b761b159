/-
  What Arith gives of the program and of the reference for two valid values, case.
-/
import Derived.Test.YtdmhmlnfoocnjaaGreatDoorK04
set_option linter.unusedVariables false
namespace Go.Proofs.YtdmhmlnfoocnjaaGreatDoor
open Go Go.RowKit

theorem compute_is (op n n' : Int) (b : Bool) (w : World) (h : -1000000000000 ≤ n ∧ n ≤ 1000000000000) (h' : -1000000000000 ≤ n' ∧ n' ≤ 1000000000000) (hc : compOk op n n' = b) :
    Calls Tryz.prog 161 #[.int .i64 op, .int .i64 n, .int .i64 n'] w fun e w' => e = .returned (.tuple #[.int .i64 (compV op n n'), .bool b]) ∧ w = w' := by
  subst hc; exact compute_calls op n n' w h h'
theorem fitB_iff {n : Int} : fitB n = true ↔ -1000000000000 ≤ n ∧ n ≤ 1000000000000 := by simp [fitB]
theorem numOk_eq (op n n' : Int) (h : -1000000000000 ≤ n ∧ n ≤ 1000000000000) : numOk op n n' = (compOk op n n' && fitB (numV op n n')) := by
  unfold numOk compOk numV
  by_cases h6 : op = 6
  · simp [h6]
  · by_cases h7 : op = 7
    · simp [h7]
    · by_cases h8 : op = 8
      · subst h8
        simp only [h6, h7, if_true, if_false]
        cases hm : mulOk n n'
        · simp
        · simp [fitB_iff.2 (mulOk_bd hm)]
      · by_cases h9 : op = 9
        · subst h9
          simp only [h6, h7, h8, if_true, if_false, fitB_iff.2 (tdiv_bd h)]
          by_cases hz : n' = 0 <;> simp [hz]
        · by_cases h10 : op = 10
          · subst h10
            simp only [h6, h7, h8, h9, if_true, if_false, fitB_iff.2 (tmod_bd h)]
            by_cases hz : n' = 0 <;> simp [hz]
          · simp only [h6, h7, h8, h9, h10, if_false]
            by_cases hz : n' = 0 <;> simp [hz]
set_option maxHeartbeats 1000000 in
theorem Arith_text_true (n : Int) (s : ByteArray) (n' : Int) (s' : ByteArray) (w : World) (hs : s.size ≤ maxLen) (hs' : s'.size ≤ maxLen) (hv : vB 3 n s = true) (hv' : vB 3 n' s' = true) (hc : vB 3 0 (s ++ s') = true) :
    Calls Tryz.prog 141 #[.int .i64 12, .agg #[.int .i64 3, .int .i64 n, .string s], .agg #[.int .i64 3, .int .i64 n', .string s']] w fun e w' => e = .returned (.agg #[.int .i64 3, .int .i64 0, .string (s ++ s')]) ∧ Cls w w' := by
  have h1 := (vB_text hv).2
  have h2 := (vB_text hv').2
  have hz : (s ++ s').size ≤ maxLen := by rw [ByteArray.size_append]; unfold maxLen; omega
  have hz2 : (s ++ s').size ≤ 48 := by rw [ByteArray.size_append]; omega
  have HV := Lib.hid hv
  have HV' := Lib.hid hv'
  have HC := Lib.hid hc
  clear hv hv' hc
  go_enter Tryz.func141, Tryz.ntmps141
  go_wp2_with (first | (go_at_call 136; first | ((with_reducible refine (Cls.call (Valid_is _ _ _ _ _ hs HV.out)).mono ?_); rintro e _ ⟨rfl, y, rfl⟩) | ((with_reducible refine (Valid_is _ _ _ _ _ hs HV.out).mono ?_); rintro e _ ⟨rfl, y, rfl⟩)) | (go_at_call 136; first | ((with_reducible refine (Cls.call (Valid_is _ _ _ _ _ hs' HV'.out)).mono ?_); rintro e _ ⟨rfl, y, rfl⟩) | ((with_reducible refine (Valid_is _ _ _ _ _ hs' HV'.out).mono ?_); rintro e _ ⟨rfl, y, rfl⟩)) | (go_at_call 160; first | ((with_reducible refine (Cls.call (concat_true _ _ _ _ _ h1 h2 HC.out)).mono ?_); rintro e _ ⟨rfl, y, rfl⟩) | ((with_reducible refine (concat_true _ _ _ _ _ h1 h2 HC.out).mono ?_); rintro e _ ⟨rfl, y, rfl⟩)))
  refine ret_ex rfl ?_
  simp [results, Tryz.results141, go_sem]
  refine Cls.of ?_
  repeat first|with_reducible exact Below.refl _ _|with_reducible refine Below.setCell ?_ (by first|omega|(simp;done)|(simp;omega)) _|with_reducible refine Below.alloc ?_ (by first|omega|(simp;done)|(simp;omega)) _|with_reducible refine Below.drew ?_|with_reducible refine Ext.on _ ?_ (by first|omega|(simp;done)|(simp;omega))
set_option maxHeartbeats 1000000 in
theorem Arith_text_false (n : Int) (s : ByteArray) (n' : Int) (s' : ByteArray) (w : World) (hs : s.size ≤ maxLen) (hs' : s'.size ≤ maxLen) (hv : vB 3 n s = true) (hv' : vB 3 n' s' = true) (hc : vB 3 0 (s ++ s') = false) :
    Calls Tryz.prog 141 #[.int .i64 12, .agg #[.int .i64 3, .int .i64 n, .string s], .agg #[.int .i64 3, .int .i64 n', .string s']] w fun e w' => e = .returned (.agg #[.int .i64 0, .int .i64 0, .string ⟨#[]⟩]) ∧ Cls w w' := by
  have h1 := (vB_text hv).2
  have h2 := (vB_text hv').2
  have hz : (s ++ s').size ≤ maxLen := by rw [ByteArray.size_append]; unfold maxLen; omega
  have hz2 : (s ++ s').size ≤ 48 := by rw [ByteArray.size_append]; omega
  have HV := Lib.hid hv
  have HV' := Lib.hid hv'
  have HC := Lib.hid hc
  clear hv hv' hc
  go_enter Tryz.func141, Tryz.ntmps141
  go_wp2_with (first | (go_at_call 136; first | ((with_reducible refine (Cls.call (Valid_is _ _ _ _ _ hs HV.out)).mono ?_); rintro e _ ⟨rfl, y, rfl⟩) | ((with_reducible refine (Valid_is _ _ _ _ _ hs HV.out).mono ?_); rintro e _ ⟨rfl, y, rfl⟩)) | (go_at_call 136; first | ((with_reducible refine (Cls.call (Valid_is _ _ _ _ _ hs' HV'.out)).mono ?_); rintro e _ ⟨rfl, y, rfl⟩) | ((with_reducible refine (Valid_is _ _ _ _ _ hs' HV'.out).mono ?_); rintro e _ ⟨rfl, y, rfl⟩)) | (go_at_call 160; first | ((with_reducible refine (Cls.call (concat_false _ _ _ _ _ h1 h2 HC.out)).mono ?_); rintro e _ ⟨rfl, y, rfl⟩) | ((with_reducible refine (concat_false _ _ _ _ _ h1 h2 HC.out).mono ?_); rintro e _ ⟨rfl, y, rfl⟩)))
  refine ret_ex rfl ?_
  simp [results, Tryz.results141, go_sem]
  refine Cls.of ?_
  repeat first|with_reducible exact Below.refl _ _|with_reducible refine Below.setCell ?_ (by first|omega|(simp;done)|(simp;omega)) _|with_reducible refine Below.alloc ?_ (by first|omega|(simp;done)|(simp;omega)) _|with_reducible refine Below.drew ?_|with_reducible refine Ext.on _ ?_ (by first|omega|(simp;done)|(simp;omega))
set_option maxHeartbeats 1000000 in
theorem Arith_num_none (op n : Int) (s : ByteArray) (n' : Int) (s' : ByteArray) (w : World) (hs : s.size ≤ maxLen) (hs' : s'.size ≤ maxLen) (hv : vB 1 n s = true) (hv' : vB 1 n' s' = true) (ho : ¬ op = 12) (hc : compOk op n n' = false) : Calls Tryz.prog 141 #[.int .i64 op, .agg #[.int .i64 1, .int .i64 n, .string s], .agg #[.int .i64 1, .int .i64 n', .string s']] w fun e w' => e = .returned (.agg #[.int .i64 0, .int .i64 0, .string ⟨#[]⟩]) ∧ Cls w w' := by
  have hb := vB_num hv
  have hb' := vB_num hv'
  have HV := Lib.hid hv
  have HV' := Lib.hid hv'
  clear hv hv'
  have ho' : (op == 12) = false := by simpa using ho
  clear ho
  have HC := Lib.hid hc
  clear hc
  go_enter Tryz.func141, Tryz.ntmps141
  go_wp2_with (first | (go_at_call 136; first | ((with_reducible refine (Cls.call (Valid_is _ _ _ _ _ hs HV.out)).mono ?_); rintro e _ ⟨rfl, y, rfl⟩) | ((with_reducible refine (Valid_is _ _ _ _ _ hs HV.out).mono ?_); rintro e _ ⟨rfl, y, rfl⟩)) | (go_at_call 136; first | ((with_reducible refine (Cls.call (Valid_is _ _ _ _ _ hs' HV'.out)).mono ?_); rintro e _ ⟨rfl, y, rfl⟩) | ((with_reducible refine (Valid_is _ _ _ _ _ hs' HV'.out).mono ?_); rintro e _ ⟨rfl, y, rfl⟩)) | (go_at_call 161; (with_reducible refine (compute_is _ _ _ _ _ hb hb' HC.out).mono ?_); rintro e _ ⟨rfl, rfl⟩))
  refine ret_ex rfl ?_
  simp [results, Tryz.results141, go_sem]
  refine Cls.of ?_
  repeat first|with_reducible exact Below.refl _ _|with_reducible refine Below.setCell ?_ (by first|omega|(simp;done)|(simp;omega)) _|with_reducible refine Below.alloc ?_ (by first|omega|(simp;done)|(simp;omega)) _|with_reducible refine Below.drew ?_|with_reducible refine Ext.on _ ?_ (by first|omega|(simp;done)|(simp;omega))
set_option maxHeartbeats 1000000 in
theorem Arith_num_far (op n : Int) (s : ByteArray) (n' : Int) (s' : ByteArray) (w : World) (hs : s.size ≤ maxLen) (hs' : s'.size ≤ maxLen) (hv : vB 1 n s = true) (hv' : vB 1 n' s' = true) (ho : ¬ op = 12) (hc : compOk op n n' = true) (hf : fitB (compV op n n') = false) : Calls Tryz.prog 141 #[.int .i64 op, .agg #[.int .i64 1, .int .i64 n, .string s], .agg #[.int .i64 1, .int .i64 n', .string s']] w fun e w' => e = .returned (.agg #[.int .i64 0, .int .i64 0, .string ⟨#[]⟩]) ∧ Cls w w' := by
  have hb := vB_num hv
  have hb' := vB_num hv'
  have HV := Lib.hid hv
  have HV' := Lib.hid hv'
  clear hv hv'
  have ho' : (op == 12) = false := by simpa using ho
  clear ho
  have HC := Lib.hid hc
  have HF : Hid (vB 1 (compV op n n') ⟨#[]⟩ = false) := Lib.hid (by rw [vB_one]; exact hf)
  clear hc hf
  go_enter Tryz.func141, Tryz.ntmps141
  go_wp2_with (first | (go_at_call 136; first | ((with_reducible refine (Cls.call (Valid_is _ _ _ _ _ hs HV.out)).mono ?_); rintro e _ ⟨rfl, y, rfl⟩) | ((with_reducible refine (Valid_is _ _ _ _ _ hs HV.out).mono ?_); rintro e _ ⟨rfl, y, rfl⟩)) | (go_at_call 136; first | ((with_reducible refine (Cls.call (Valid_is _ _ _ _ _ hs' HV'.out)).mono ?_); rintro e _ ⟨rfl, y, rfl⟩) | ((with_reducible refine (Valid_is _ _ _ _ _ hs' HV'.out).mono ?_); rintro e _ ⟨rfl, y, rfl⟩)) | (go_at_call 161; (with_reducible refine (compute_is _ _ _ _ _ hb hb' HC.out).mono ?_); rintro e _ ⟨rfl, rfl⟩) | (go_at_call 162; first | ((with_reducible refine (Cls.call (von_false _ _ _ _ (by decide) HF.out)).mono ?_); rintro e _ ⟨rfl, y, rfl⟩) | ((with_reducible refine (von_false _ _ _ _ (by decide) HF.out).mono ?_); rintro e _ ⟨rfl, y, rfl⟩)))
  refine ret_ex rfl ?_
  simp [results, Tryz.results141, go_sem]
  refine Cls.of ?_
  repeat first|with_reducible exact Below.refl _ _|with_reducible refine Below.setCell ?_ (by first|omega|(simp;done)|(simp;omega)) _|with_reducible refine Below.alloc ?_ (by first|omega|(simp;done)|(simp;omega)) _|with_reducible refine Below.drew ?_|with_reducible refine Ext.on _ ?_ (by first|omega|(simp;done)|(simp;omega))
set_option maxHeartbeats 1000000 in
theorem Arith_num_fits (op n : Int) (s : ByteArray) (n' : Int) (s' : ByteArray) (w : World) (hs : s.size ≤ maxLen) (hs' : s'.size ≤ maxLen) (hv : vB 1 n s = true) (hv' : vB 1 n' s' = true) (ho : ¬ op = 12) (hc : compOk op n n' = true) (hf : fitB (compV op n n') = true) : Calls Tryz.prog 141 #[.int .i64 op, .agg #[.int .i64 1, .int .i64 n, .string s], .agg #[.int .i64 1, .int .i64 n', .string s']] w fun e w' => e = .returned (.agg #[.int .i64 1, .int .i64 (compV op n n'), .string ⟨#[]⟩]) ∧ Cls w w' := by
  have hb := vB_num hv
  have hb' := vB_num hv'
  have HV := Lib.hid hv
  have HV' := Lib.hid hv'
  clear hv hv'
  have ho' : (op == 12) = false := by simpa using ho
  clear ho
  have HC := Lib.hid hc
  have HF : Hid (vB 1 (compV op n n') ⟨#[]⟩ = true) := Lib.hid (by rw [vB_one]; exact hf)
  clear hc hf
  go_enter Tryz.func141, Tryz.ntmps141
  go_wp2_with (first | (go_at_call 136; first | ((with_reducible refine (Cls.call (Valid_is _ _ _ _ _ hs HV.out)).mono ?_); rintro e _ ⟨rfl, y, rfl⟩) | ((with_reducible refine (Valid_is _ _ _ _ _ hs HV.out).mono ?_); rintro e _ ⟨rfl, y, rfl⟩)) | (go_at_call 136; first | ((with_reducible refine (Cls.call (Valid_is _ _ _ _ _ hs' HV'.out)).mono ?_); rintro e _ ⟨rfl, y, rfl⟩) | ((with_reducible refine (Valid_is _ _ _ _ _ hs' HV'.out).mono ?_); rintro e _ ⟨rfl, y, rfl⟩)) | (go_at_call 161; (with_reducible refine (compute_is _ _ _ _ _ hb hb' HC.out).mono ?_); rintro e _ ⟨rfl, rfl⟩) | (go_at_call 162; first | ((with_reducible refine (Cls.call (von_true _ _ _ _ (by decide) HF.out)).mono ?_); rintro e _ ⟨rfl, y, rfl⟩) | ((with_reducible refine (von_true _ _ _ _ (by decide) HF.out).mono ?_); rintro e _ ⟨rfl, y, rfl⟩)))
  refine ret_ex rfl ?_
  simp [results, Tryz.results141, go_sem]
  refine Cls.of ?_
  repeat first|with_reducible exact Below.refl _ _|with_reducible refine Below.setCell ?_ (by first|omega|(simp;done)|(simp;omega)) _|with_reducible refine Below.alloc ?_ (by first|omega|(simp;done)|(simp;omega)) _|with_reducible refine Below.drew ?_|with_reducible refine Ext.on _ ?_ (by first|omega|(simp;done)|(simp;omega))
end Go.Proofs.YtdmhmlnfoocnjaaGreatDoor
