/-
  The walk of the law SchemaNames: it returns true for every string and every number.
-/
import Derived.Test.YtbgbcjgpaoabdabName2
set_option linter.unusedVariables false
namespace Go.Proofs.Ytbgbcjgpaoabdab
open Go Go.RowKit Go.Deep
theorem word_no (i : Nat) (h : i < 52) : nameB (wordsB.getD i ByteArray.empty) = false := by
  have key : ∀ x ∈ wordsB, nameB x = false := by
    intro x hx
    have hr : resB x = true := by
      rw [resB_eq, List.drop_zero, List.any_eq_true]
      exact ⟨x, hx, by simp⟩
    unfold nameB
    rw [hr]
    simp
  have hl : i < wordsB.length := h
  apply key
  simp [List.getD, hl]
theorem word_size (i : Nat) (h : i < 52) : (wordsB.getD i ByteArray.empty).size ≤ 10 := by
  have key : ∀ j : Fin 52, (wordsB.getD j.val ByteArray.empty).size ≤ 10 := by decide
  exact key ⟨i, h⟩
theorem name_a : nameB ⟨#[97]⟩ = true := by
  have hr : resB ⟨#[97]⟩ = false := by simp [resB, words, Lib.toList_data]
  unfold nameB
  rw [hr]
  decide
theorem app_size (x : ByteArray) (h : x.size ≤ 10) : (x ++ (⟨#[95]⟩ : ByteArray)).size ≤ maxLen := by
  rw [ByteArray.size_append]
  have : (⟨#[95]⟩ : ByteArray).size = 1 := rfl
  unfold maxLen
  omega
theorem a_size : (⟨#[97]⟩ : ByteArray).size ≤ maxLen := by
  have : (⟨#[97]⟩ : ByteArray).size = 1 := rfl
  unfold maxLen
  omega
theorem tmod_neg (n : Int) (h : n < 0) : (n + 1).tmod 52 = -((-(n + 1)) % 52) := by
  rw [← Int.tmod_eq_emod_of_nonneg (by omega : 0 ≤ -(n + 1)), Int.neg_tmod, Int.neg_neg]
set_option maxHeartbeats 4000000 in
set_option maxRecDepth 20000 in
theorem schemaNames_walk (s : ByteArray) (n : Int) (w : World) (hs : s.size ≤ maxLen) (hn : (Lit.int .i64 n).wf = true) :
    Calls Try.prog 3 #[.string s, .int .i64 n] w fun e w' => e = .returned (.bool true) ∧ Below w.heap.size w w' := by
  have HS := Lib.hid hs
  have hnw : -9223372036854775808 ≤ n ∧ n ≤ 9223372036854775807 := by
    have h2 : IntKind.i64.min ≤ n ∧ n ≤ 9223372036854775807 := by simpa [Lit.wf] using hn
    exact h2
  clear hs hn
  by_cases h100 : 100 < s.size
  · have d1 : decide (100 < (s.size : Int)) = true := by simp; omega
    go_enter Try.func3, Try.ntmps3
    go_wp2_with fail
    all_goals
      go_ret
      refine ⟨ret_bool rfl, ?_⟩
      repeat first | with_reducible exact Below.refl _ _ | with_reducible refine Below.setCell ?_ (by first | omega | (simp; done) | (simp; omega)) _ | with_reducible refine Below.alloc ?_ (by first | omega | (simp; done) | (simp; omega)) _ | with_reducible refine Below.drew ?_ | with_reducible refine Ext.on _ ?_ (by first | omega | (simp; done) | (simp; omega))
  · have d1 : decide (100 < (s.size : Int)) = false := by simp; omega
    by_cases hneg : n < 0
    all_goals
      obtain ⟨i, hi, ei⟩ : ∃ i : Nat, i < 52 ∧ i = (if n < 0 then (-((n + 1).tmod 52)).toNat else (n % 52).toNat) := by
        refine ⟨_, ?_, rfl⟩
        split
        · rw [tmod_neg n (by assumption)]; omega
        · omega
      have HN0 := Lib.hid (word_no i hi)
      have HZ0 := Lib.hid (word_size i hi)
    · have hm1 : (n + 1).tmod 52 ≤ 0 := by rw [tmod_neg n hneg]; omega
      have hm2 : -(n + 1).tmod 52 < 52 := by rw [tmod_neg n hneg]; omega
      rw [if_pos hneg] at ei
      have EI := Lib.hid ei
      clear ei
      have na := name_a
      go_enter Try.func3, Try.ntmps3
      go_wp2_with (first | (go_at_call 6; ((with_reducible refine (Reserved_calls _).mono ?_); rintro r w2 hq; obtain ⟨b, rfl, hb, hcell, y, rfl⟩ := hq; have q := hcell i hi; rw [EI.out] at q; clear hcell; rw [EI.out] at HN0 HZ0; generalize hx : wordsB.getD (-(n + 1).tmod 52).toNat ByteArray.empty = x0 at q HN0 HZ0; clear hx; have hn0 := HN0.out; have hz0 := HZ0.out)) | (go_at_call 7; ((with_reducible refine (Cls.call (Name_calls _ _ (by first | exact HS.out | exact app_size _ HZ0.out | exact a_size | (unfold maxLen; omega)))).mono ?_); rintro r _ ⟨rfl, z, rfl⟩)) | (go_at_call 8; ((with_reducible refine (Cls.call (rName_calls _ _ (by first | exact HS.out | exact app_size _ HZ0.out | exact a_size | (unfold maxLen; omega)))).mono ?_); rintro r _ ⟨rfl, z, rfl⟩)))
      all_goals
        go_ret
        refine ⟨ret_bool rfl, ?_⟩
        repeat first | with_reducible exact Below.refl _ _ | with_reducible refine Below.setCell ?_ (by first | omega | (simp; done) | (simp; omega)) _ | with_reducible refine Below.alloc ?_ (by first | omega | (simp; done) | (simp; omega)) _ | with_reducible refine Below.drew ?_ | with_reducible refine Ext.on _ ?_ (by first | omega | (simp; done) | (simp; omega))
    · rw [if_neg hneg] at ei
      have EI := Lib.hid ei
      clear ei
      have na := name_a
      go_enter Try.func3, Try.ntmps3
      go_wp2_with (first | (go_at_call 6; ((with_reducible refine (Reserved_calls _).mono ?_); rintro r w2 hq; obtain ⟨b, rfl, hb, hcell, y, rfl⟩ := hq; have q := hcell i hi; rw [EI.out] at q; clear hcell; rw [EI.out] at HN0 HZ0; generalize hx : wordsB.getD (n % 52).toNat ByteArray.empty = x0 at q HN0 HZ0; clear hx; have hn0 := HN0.out; have hz0 := HZ0.out)) | (go_at_call 7; ((with_reducible refine (Cls.call (Name_calls _ _ (by first | exact HS.out | exact app_size _ HZ0.out | exact a_size | (unfold maxLen; omega)))).mono ?_); rintro r _ ⟨rfl, z, rfl⟩)) | (go_at_call 8; ((with_reducible refine (Cls.call (rName_calls _ _ (by first | exact HS.out | exact app_size _ HZ0.out | exact a_size | (unfold maxLen; omega)))).mono ?_); rintro r _ ⟨rfl, z, rfl⟩)))
      all_goals
        go_ret
        refine ⟨ret_bool rfl, ?_⟩
        repeat first | with_reducible exact Below.refl _ _ | with_reducible refine Below.setCell ?_ (by first | omega | (simp; done) | (simp; omega)) _ | with_reducible refine Below.alloc ?_ (by first | omega | (simp; done) | (simp; omega)) _ | with_reducible refine Below.drew ?_ | with_reducible refine Ext.on _ ?_ (by first | omega | (simp; done) | (simp; omega))
end Go.Proofs.Ytbgbcjgpaoabdab
