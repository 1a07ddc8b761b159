/-
  The walk of the law ValueCompares: it returns true for every three values.
-/
import Derived.Test.YtgmpdngolpkjjaaOrder
import Derived.Test.YtgmpdngolpkjjaaValid
import Derived.LoopTactic
set_option linter.unusedVariables false
namespace Go.Proofs.Ytgmpdngolpkjjaa
open Go Go.RowKit
theorem cmpI_bd (a b : Int) : -1 ≤ cmpI a b ∧ cmpI a b ≤ 1 := by unfold cmpI; split <;> (try split) <;> omega
theorem cmpS_bd (s t : ByteArray) : -1 ≤ cmpS s t ∧ cmpS s t ≤ 1 := by unfold cmpS; split <;> (try split) <;> omega
theorem cmpV_bd (k n : Int) (s : ByteArray) (k' n' : Int) (s' : ByteArray) : -1 ≤ cmpV k n s k' n' s' ∧ cmpV k n s k' n' s' ≤ 1 := by
  unfold cmpV
  split
  · split
    · exact cmpS_bd _ _
    · exact cmpI_bd _ _
  · exact cmpI_bd _ _
set_option maxHeartbeats 8000000 in
set_option maxRecDepth 100000 in
theorem valueCompares_walk (k n : Int) (s : ByteArray) (k' n' : Int) (s' : ByteArray) (k2 n2 : Int) (s2 : ByteArray) (w : World) (hk : (Lit.int .i64 k).wf = true) (hn : (Lit.int .i64 n).wf = true) (hs : s.size ≤ maxLen) (hk' : (Lit.int .i64 k').wf = true) (hn' : (Lit.int .i64 n').wf = true) (hs' : s'.size ≤ maxLen) (hk2 : (Lit.int .i64 k2).wf = true) (hn2 : (Lit.int .i64 n2).wf = true) (hs2 : s2.size ≤ maxLen) :
    Calls Try.prog 3 #[.agg #[.int .i64 k, .int .i64 n, .string s], .agg #[.int .i64 k', .int .i64 n', .string s'], .agg #[.int .i64 k2, .int .i64 n2, .string s2]] w fun e w' => e = .returned (.bool true) ∧ Below w.heap.size w w' := by
  clear hk hn hk' hn' hk2 hn2
  have es0 : cmpV k n s k n s = 0 := cmpV_self _ _ _
  have ss0 : sameB k n s k n s = true := by simp [sameB, cmpV_self]
  have es1 : cmpV k' n' s' k' n' s' = 0 := cmpV_self _ _ _
  have ss1 : sameB k' n' s' k' n' s' = true := by simp [sameB, cmpV_self]
  have es2 : cmpV k2 n2 s2 k2 n2 s2 = 0 := cmpV_self _ _ _
  have ss2 : sameB k2 n2 s2 k2 n2 s2 = true := by simp [sameB, cmpV_self]
  have en0 : cmpV k' n' s' k n s = -cmpV k n s k' n' s' := cmpV_neg _ _ _ _ _ _
  obtain ⟨eb0, ec0⟩ := cmpV_bd k n s k' n' s'
  have en1 : cmpV k2 n2 s2 k n s = -cmpV k n s k2 n2 s2 := cmpV_neg _ _ _ _ _ _
  obtain ⟨eb1, ec1⟩ := cmpV_bd k n s k2 n2 s2
  have en2 : cmpV k2 n2 s2 k' n' s' = -cmpV k' n' s' k2 n2 s2 := cmpV_neg _ _ _ _ _ _
  obtain ⟨eb2, ec2⟩ := cmpV_bd k' n' s' k2 n2 s2
  have HT : Hid (cmpV k n s k' n' s' ≤ 0 → cmpV k' n' s' k2 n2 s2 ≤ 0 → cmpV k n s k2 n2 s2 ≤ 0) := fun h h' => cmpV_trans h h'
  go_enter Try.func3, Try.ntmps3
  go_wp2_with fail
  go_loopw [8] (fun i wr => ∃ j : Int, 0 ≤ j ∧ j ≤ 3 ∧ i = .int .i64 j ∧ Cls ((((w.alloc (.cells #[.int .i64 k, .int .i64 n, .string s] 23)).alloc (.cells #[.int .i64 k', .int .i64 n', .string s'] 23)).alloc (.cells #[.int .i64 k2, .int .i64 n2, .string s2] 23)).alloc (.cells #[.int .i64 k, .int .i64 n, .string s, .int .i64 k', .int .i64 n', .string s', .int .i64 k2, .int .i64 n2, .string s2] 23)) wr) (fun i _ => (3 - intOf i).toNat)
  case atStart => exact ⟨0, by omega, by omega, rfl, Cls.of (Below.refl _ _)⟩
  case round =>
    obtain ⟨j, h0, h3, rfl, x, rfl⟩ := hrel
    by_cases hj3 : j = 3
    · subst hj3
      by_cases h1 : 0 < cmpV k n s k' n' s'
      · have d1 : decide (0 < cmpV k n s k' n' s') = true := by simpa using h1
        go_wp2_with (first | (go_at_call 12; ((with_reducible refine (Cls.call (Compare_calls _ _ _ _ _ _ _)).mono ?_); rintro e _ ⟨rfl, q, rfl⟩)))
        go_ret
        refine ⟨ret_bool ?_, ?_⟩
        · simp_all
        · repeat first | with_reducible exact Below.refl _ _ | with_reducible refine Below.setCell ?_ (by first | omega | (simp; done) | (simp; omega)) _ | with_reducible refine Below.alloc ?_ (by first | omega | (simp; done) | (simp; omega)) _ | with_reducible refine Below.drew ?_ | with_reducible refine Ext.on _ ?_ (by first | omega | (simp; done) | (simp; omega))
      · by_cases h2 : 0 < cmpV k' n' s' k2 n2 s2
        · have d1 : decide (0 < cmpV k n s k' n' s') = false := by simpa using h1
          have d2 : decide (0 < cmpV k' n' s' k2 n2 s2) = true := by simpa using h2
          go_wp2_with (first | (go_at_call 12; ((with_reducible refine (Cls.call (Compare_calls _ _ _ _ _ _ _)).mono ?_); rintro e _ ⟨rfl, q, rfl⟩)))
          go_ret
          refine ⟨ret_bool ?_, ?_⟩
          · simp_all
          · repeat first | with_reducible exact Below.refl _ _ | with_reducible refine Below.setCell ?_ (by first | omega | (simp; done) | (simp; omega)) _ | with_reducible refine Below.alloc ?_ (by first | omega | (simp; done) | (simp; omega)) _ | with_reducible refine Below.drew ?_ | with_reducible refine Ext.on _ ?_ (by first | omega | (simp; done) | (simp; omega))
        · have h4 : cmpV k n s k2 n2 s2 ≤ 0 := HT.out (by omega) (by omega)
          have d1 : decide (0 < cmpV k n s k' n' s') = false := by simpa using h1
          have d2 : decide (0 < cmpV k' n' s' k2 n2 s2) = false := by simpa using h2
          have d3 : decide (cmpV k n s k2 n2 s2 ≤ 0) = true := by simpa using h4
          go_wp2_with (first | (go_at_call 12; ((with_reducible refine (Cls.call (Compare_calls _ _ _ _ _ _ _)).mono ?_); rintro e _ ⟨rfl, q, rfl⟩)))
          go_ret
          refine ⟨ret_bool ?_, ?_⟩
          · simp_all
          · repeat first | with_reducible exact Below.refl _ _ | with_reducible refine Below.setCell ?_ (by first | omega | (simp; done) | (simp; omega)) _ | with_reducible refine Below.alloc ?_ (by first | omega | (simp; done) | (simp; omega)) _ | with_reducible refine Below.drew ?_ | with_reducible refine Ext.on _ ?_ (by first | omega | (simp; done) | (simp; omega))
    · clear HT
      have hj : j = 0 ∨ j = 1 ∨ j = 2 := by omega
      clear h0 h3 hj3
      rcases hj with rfl | rfl | rfl
      all_goals
        go_wp2_with fail
        refine wp_region_on (by kernel_rfl) (by kernel_rfl) ?_
        repeat (go_big_quiet_step (first | (go_at_call 10; with_reducible exact Cls.call (Valid_calls _ _ _ _ hs)) | (go_at_call 10; with_reducible exact Cls.call (Valid_calls _ _ _ _ hs')) | (go_at_call 10; with_reducible exact Cls.call (Valid_calls _ _ _ _ hs2)) | (go_at_call 11; with_reducible exact Cls.call (rValid_calls _ _ _ _ hs)) | (go_at_call 11; with_reducible exact Cls.call (rValid_calls _ _ _ _ hs')) | (go_at_call 11; with_reducible exact Cls.call (rValid_calls _ _ _ _ hs2)) | (go_at_call 12; with_reducible exact Cls.call (Compare_calls _ _ _ _ _ _ _)) | (go_at_call 13; with_reducible exact Cls.call (Same_calls _ _ _ _ _ _ _)) | (go_at_call 14; with_reducible exact Cls.call (rCompare_calls _ _ _ _ _ _ _)) | (go_at_call 15; with_reducible exact Cls.call (rSame_calls _ _ _ _ _ _ _))))
        refine wpQuiet_nil ?_
        rintro _ ⟨y, rfl⟩
        go_wp2_with fail
        go_loopw [9] (fun t wr => ∃ m : Int, 0 ≤ m ∧ m ≤ 3 ∧ t = .int .i64 m ∧ Cls ((((w.alloc (.cells #[.int .i64 k, .int .i64 n, .string s] 23)).alloc (.cells #[.int .i64 k', .int .i64 n', .string s'] 23)).alloc (.cells #[.int .i64 k2, .int .i64 n2, .string s2] 23)).alloc (.cells #[.int .i64 k, .int .i64 n, .string s, .int .i64 k', .int .i64 n', .string s', .int .i64 k2, .int .i64 n2, .string s2] 23)) wr) (fun t _ => (3 - intOf t).toNat)
        case atStart => exact ⟨0, by omega, by omega, rfl, y, rfl⟩
        case round =>
          obtain ⟨m, g0, g3, rfl, z, rfl⟩ := hrel
          by_cases hm3 : m = 3
          · subst hm3
            go_wp2_with fail
            go_roundw
            case rel => exact ⟨_, by omega, by omega, rfl, z, rfl⟩
            case measure => simp [intOf]
          · have hm : m = 0 ∨ m = 1 ∨ m = 2 := by omega
            clear g0 g3 hm3
            rcases hm with rfl | rfl | rfl
            all_goals
              go_wp2_with fail
              refine wp_region_on (by kernel_rfl) (by kernel_rfl) ?_
              repeat (go_big_quiet_step (first | (go_at_call 10; with_reducible exact Cls.call (Valid_calls _ _ _ _ hs)) | (go_at_call 10; with_reducible exact Cls.call (Valid_calls _ _ _ _ hs')) | (go_at_call 10; with_reducible exact Cls.call (Valid_calls _ _ _ _ hs2)) | (go_at_call 11; with_reducible exact Cls.call (rValid_calls _ _ _ _ hs)) | (go_at_call 11; with_reducible exact Cls.call (rValid_calls _ _ _ _ hs')) | (go_at_call 11; with_reducible exact Cls.call (rValid_calls _ _ _ _ hs2)) | (go_at_call 12; with_reducible exact Cls.call (Compare_calls _ _ _ _ _ _ _)) | (go_at_call 13; with_reducible exact Cls.call (Same_calls _ _ _ _ _ _ _)) | (go_at_call 14; with_reducible exact Cls.call (rCompare_calls _ _ _ _ _ _ _)) | (go_at_call 15; with_reducible exact Cls.call (rSame_calls _ _ _ _ _ _ _))))
              refine wpQuiet_nil ?_
              rintro _ ⟨q, rfl⟩
              go_wp2_with fail
              go_roundw
              case rel => exact ⟨_, by omega, by omega, rfl, q, rfl⟩
              case measure => simp [intOf]
end Go.Proofs.Ytgmpdngolpkjjaa
