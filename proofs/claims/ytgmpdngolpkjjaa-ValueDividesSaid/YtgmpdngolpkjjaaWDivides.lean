/-
  The walk of the law ValueDivides: it returns true for every two numbers.
-/
import Derived.Test.YtgmpdngolpkjjaaArith3
import Derived.Test.YtgmpdngolpkjjaaNew
set_option linter.unusedVariables false
namespace Go.Proofs.Ytgmpdngolpkjjaa
open Go Go.RowKit
theorem absI_nat (n : Int) : absI n = (n.natAbs : Int) := by unfold absI; split <;> omega
theorem vB_fit {n : Int} (h : -1000000000000 ≤ n ∧ n ≤ 1000000000000) : vB 1 n ⟨#[]⟩ = true := by rw [vB_one]; exact fitB_iff.2 h
theorem rem_bd (a : Int) : -1000000000000 ≤ a.tmod 1000000000001 ∧ a.tmod 1000000000001 ≤ 1000000000000 := by
  have h : (a.tmod 1000000000001).natAbs < 1000000000001 := by rw [Int.natAbs_tmod]; exact Nat.mod_lt _ (by decide)
  omega
theorem quo_mul_ok {X Y : Int} (h : -1000000000000 ≤ X ∧ X ≤ 1000000000000) (hY : ¬ Y = 0) : mulOk (X.tdiv Y) Y = true := by
  unfold mulOk
  rw [show (Y == 0) = false by simpa using hY, Bool.false_or, decide_eq_true_eq]
  have h1 := absI_one hY
  rw [Int.le_ediv_iff_mul_le (by omega), absI_nat, absI_nat, ← Int.natCast_mul, Int.natAbs_tdiv]
  have h2 : ((X.natAbs / Y.natAbs * Y.natAbs : Nat) : Int) ≤ (X.natAbs : Int) := Int.ofNat_le.2 (Nat.div_mul_le_self X.natAbs Y.natAbs)
  exact Int.le_trans h2 (by omega)
theorem quo_rem {X Y : Int} : X.tdiv Y * Y + X.tmod Y = X := by rw [Int.mul_comm]; exact Int.mul_tdiv_add_tmod X Y
theorem rem_lt {X Y : Int} (hY : ¬ Y = 0) : (X.tmod Y).natAbs < Y.natAbs := by rw [Int.natAbs_tmod]; exact Nat.mod_lt _ (by omega)
theorem sq_nat (n : Int) : n * n = ((n.natAbs * n.natAbs : Nat) : Int) := by rw [Int.natCast_mul]; exact (Int.natAbs_mul_self' n).symm

theorem ar_null (op X Y : Int) (W : World) (hX : -1000000000000 ≤ X ∧ X ≤ 1000000000000) (hY : -1000000000000 ≤ Y ∧ Y ≤ 1000000000000) (ho : ¬ op = 12) (h : compOk op X Y = false) :
    Calls Try.prog 32 #[.int .i64 op, .agg #[.int .i64 1, .int .i64 X, .string ⟨#[]⟩], .agg #[.int .i64 1, .int .i64 Y, .string ⟨#[]⟩]] W fun e w' => e = .returned (.agg #[.int .i64 0, .int .i64 0, .string ⟨#[]⟩]) ∧ Cls W w' :=
  Arith_num_none op X _ Y _ W (Nat.zero_le _) (Nat.zero_le _) (vB_fit hX) (vB_fit hY) ho h
theorem ar_num (op X Y Z : Int) (W : World) (hX : -1000000000000 ≤ X ∧ X ≤ 1000000000000) (hY : -1000000000000 ≤ Y ∧ Y ≤ 1000000000000) (ho : ¬ op = 12) (h : compOk op X Y = true) (hz : numV op X Y = Z) (hf : -1000000000000 ≤ Z ∧ Z ≤ 1000000000000) :
    Calls Try.prog 32 #[.int .i64 op, .agg #[.int .i64 1, .int .i64 X, .string ⟨#[]⟩], .agg #[.int .i64 1, .int .i64 Y, .string ⟨#[]⟩]] W fun e w' => e = .returned (.agg #[.int .i64 1, .int .i64 Z, .string ⟨#[]⟩]) ∧ Cls W w' := by
  have hc : compV op X Y = Z := by simp only [compV, h, if_true]; exact hz
  rw [← hc]
  exact Arith_num_fits op X _ Y _ W (Nat.zero_le _) (Nat.zero_le _) (vB_fit hX) (vB_fit hY) ho h (by rw [hc]; exact fitB_iff.2 hf)

set_option maxHeartbeats 4000000 in
set_option maxRecDepth 100000 in
theorem valueDivides_walk (a b : Int) (w : World) (ha : (Lit.int .i64 a).wf = true) (hb : (Lit.int .i64 b).wf = true) :
    Calls Try.prog 9 #[.int .i64 a, .int .i64 b] w fun e w' => e = .returned (.bool true) ∧ Below w.heap.size w w' := by
  clear ha hb
  have hX := rem_bd a
  have hY := rem_bd b
  go_enter Try.func9, Try.ntmps9
  go_wp2_with fail
  generalize a.tmod 1000000000001 = X at *
  generalize b.tmod 1000000000001 = Y at *
  by_cases h0 : Y = 0
  · subst h0
    have C9 : Hid (∀ W, Calls Try.prog 32 #[.int .i64 9, .agg #[.int .i64 1, .int .i64 X, .string ⟨#[]⟩], .agg #[.int .i64 1, .int .i64 0, .string ⟨#[]⟩]] W fun e w' => e = .returned (.agg #[.int .i64 0, .int .i64 0, .string ⟨#[]⟩]) ∧ Cls W w') := fun W => ar_null 9 X 0 W hX hY (by decide) (by simp [compOk])
    have C10 : Hid (∀ W, Calls Try.prog 32 #[.int .i64 10, .agg #[.int .i64 1, .int .i64 X, .string ⟨#[]⟩], .agg #[.int .i64 1, .int .i64 0, .string ⟨#[]⟩]] W fun e w' => e = .returned (.agg #[.int .i64 0, .int .i64 0, .string ⟨#[]⟩]) ∧ Cls W w') := fun W => ar_null 10 X 0 W hX hY (by decide) (by simp [compOk])
    have C6 : Hid (∀ W, Calls Try.prog 32 #[.int .i64 6, .agg #[.int .i64 1, .int .i64 X, .string ⟨#[]⟩], .agg #[.int .i64 1, .int .i64 0, .string ⟨#[]⟩]] W fun e w' => e = .returned (.agg #[.int .i64 1, .int .i64 X, .string ⟨#[]⟩]) ∧ Cls W w') := fun W => ar_num 6 X 0 X W hX hY (by decide) (by simp [compOk]) (by simp [numV]) hX
    refine wp_region_new2 6 (.cells #[.int .i64 0, .int .i64 0, .string ⟨#[]⟩] 23) (.cells #[.int .i64 0, .int .i64 0, .string ⟨#[]⟩] 23) _ _ 7 8 (by kernel_rfl) (by kernel_rfl) rfl rfl rfl rfl (fun _ _ => by go_simp) (fun _ _ => by go_simp) ?_
    simp only [List.take_succ_cons, List.take_zero, List.drop_succ_cons, List.drop_zero]
    repeat (refine wpR_step (fun K hK => ?_); go_simp; first | (refine hK _ ?_; clear hK K) | (apply Exists.intro; refine ⟨fun _ => ?_, hK _ ?_⟩; (first | (go_at_call 32; with_reducible exact C9.out _) | (go_at_call 32; with_reducible exact C10.out _)); clear hK K))
    refine wpR_nil ?_
    intro b c x hb1 hb2 hb3 hc1 hc2 hc3 hbc
    have eb := fun i => cells_of hb3 i
    have ec := fun i => cells_of hc3 i
    have fb := fun i => free_of hb3 i
    have fc := fun i => free_of hc3 i
    clear hb3 hc3
    simp at hb1 hc1
    obtain ⟨z0, _, _, _, _⟩ := x.lts (b := w.heap.size) (by simp; omega)
    obtain ⟨y0, _, _, _, _⟩ := x.lts (b := w.heap.size + 1) (by simp)
    have n1 : ¬ b = w.heap.size := by omega
    have n2 : ¬ c = w.heap.size := by omega
    have n3 : ¬ b = w.heap.size + 1 := by omega
    have n4 : ¬ c = w.heap.size + 1 := by omega
    have n5 : ¬ c = b := fun e => hbc e.symm
    go_wp2_with fail
    refine wp_region_ext (by kernel_rfl) (by kernel_rfl) ?_
    repeat (go_big_quiet_step (first | (go_at_call 32; with_reducible exact Cls.call (C6.out _))))
    refine wpQuiet_nil ?_
    rintro _ ⟨y, rfl⟩
    go_wp2_with fail
    go_ret
    refine ⟨ret_bool ?_, ?_⟩
    · rfl
    · repeat first | with_reducible exact Below.refl _ _ | with_reducible refine Below.setCell ?_ (by first | omega | (simp; done) | (simp; omega)) _ | with_reducible refine Below.alloc ?_ (by first | omega | (simp; done) | (simp; omega)) _ | with_reducible refine Below.drew ?_ | with_reducible refine Ext.on _ ?_ (by first | omega | (simp; done) | (simp; omega))
  · have hq := tdiv_bd (n' := Y) hX
    have hr := tmod_bd (n' := Y) hX
    have hm := quo_mul_ok hX h0
    have hqy := mulOk_bd hm
    have C9 : Hid (∀ W, Calls Try.prog 32 #[.int .i64 9, .agg #[.int .i64 1, .int .i64 X, .string ⟨#[]⟩], .agg #[.int .i64 1, .int .i64 Y, .string ⟨#[]⟩]] W fun e w' => e = .returned (.agg #[.int .i64 1, .int .i64 (X.tdiv Y), .string ⟨#[]⟩]) ∧ Cls W w') := fun W => ar_num 9 X Y _ W hX hY (by decide) (by simp [compOk, h0]) (by simp [numV]) hq
    have C10 : Hid (∀ W, Calls Try.prog 32 #[.int .i64 10, .agg #[.int .i64 1, .int .i64 X, .string ⟨#[]⟩], .agg #[.int .i64 1, .int .i64 Y, .string ⟨#[]⟩]] W fun e w' => e = .returned (.agg #[.int .i64 1, .int .i64 (X.tmod Y), .string ⟨#[]⟩]) ∧ Cls W w') := fun W => ar_num 10 X Y _ W hX hY (by decide) (by simp [compOk, h0]) (by simp [numV]) hr
    have C8 : Hid (∀ W, Calls Try.prog 32 #[.int .i64 8, .agg #[.int .i64 1, .int .i64 (X.tdiv Y), .string ⟨#[]⟩], .agg #[.int .i64 1, .int .i64 Y, .string ⟨#[]⟩]] W fun e w' => e = .returned (.agg #[.int .i64 1, .int .i64 (X.tdiv Y * Y), .string ⟨#[]⟩]) ∧ Cls W w') := fun W => ar_num 8 _ Y _ W hq hY (by decide) (by simp [compOk, hm]) (by simp [numV]) hqy
    have C6 : Hid (∀ W, Calls Try.prog 32 #[.int .i64 6, .agg #[.int .i64 1, .int .i64 (X.tdiv Y * Y), .string ⟨#[]⟩], .agg #[.int .i64 1, .int .i64 (X.tmod Y), .string ⟨#[]⟩]] W fun e w' => e = .returned (.agg #[.int .i64 1, .int .i64 X, .string ⟨#[]⟩]) ∧ Cls W w') := fun W => ar_num 6 _ _ _ W hqy hr (by decide) (by simp [compOk]) (by simp [numV, quo_rem]) hX
    have hl := rem_lt (X := X) h0
    have HS1 := Lib.hid (sq_nat (X.tmod Y))
    have HS2 := Lib.hid (sq_nat Y)
    have hy0 : (Y == 0) = false := by simpa using h0
    clear hm hqy
    generalize X.tdiv Y = q at *
    generalize X.tmod Y = r at *
    refine wp_region_new2 6 (.cells #[.int .i64 0, .int .i64 0, .string ⟨#[]⟩] 23) (.cells #[.int .i64 0, .int .i64 0, .string ⟨#[]⟩] 23) _ _ 7 8 (by kernel_rfl) (by kernel_rfl) rfl rfl rfl rfl (fun _ _ => by go_simp) (fun _ _ => by go_simp) ?_
    simp only [List.take_succ_cons, List.take_zero, List.drop_succ_cons, List.drop_zero]
    repeat (refine wpR_step (fun K hK => ?_); go_simp; first | (refine hK _ ?_; clear hK K) | (apply Exists.intro; refine ⟨fun _ => ?_, hK _ ?_⟩; (first | (go_at_call 32; with_reducible exact C9.out _) | (go_at_call 32; with_reducible exact C10.out _)); clear hK K))
    refine wpR_nil ?_
    intro b c x hb1 hb2 hb3 hc1 hc2 hc3 hbc
    have eb := fun i => cells_of hb3 i
    have ec := fun i => cells_of hc3 i
    have fb := fun i => free_of hb3 i
    have fc := fun i => free_of hc3 i
    clear hb3 hc3
    simp at hb1 hc1
    obtain ⟨z0, _, _, _, _⟩ := x.lts (b := w.heap.size) (by simp; omega)
    obtain ⟨y0, _, _, _, _⟩ := x.lts (b := w.heap.size + 1) (by simp)
    have n1 : ¬ b = w.heap.size := by omega
    have n2 : ¬ c = w.heap.size := by omega
    have n3 : ¬ b = w.heap.size + 1 := by omega
    have n4 : ¬ c = w.heap.size + 1 := by omega
    have n5 : ¬ c = b := fun e => hbc e.symm
    go_wp2_with fail
    have fin : (¬ (Y ≤ 1000000000 ∧ -1000000000 ≤ Y)) ∨ (0 ≤ r * r ∧ r * r ≤ 1000000000000000000 ∧ 0 ≤ Y * Y ∧ Y * Y ≤ 1000000000000000000 ∧ r * r < Y * Y) := by
      by_cases hy : Y ≤ 1000000000 ∧ -1000000000 ≤ Y
      · right
        have h2 : Y.natAbs ≤ 1000000000 := by omega
        have h3 := Nat.mul_le_mul h2 h2
        have h4 := Nat.mul_lt_mul'' hl hl
        rw [HS1.out, HS2.out]
        omega
      · exact .inl hy
    clear HS1 HS2 hl
    rcases fin with hy | ⟨f1, f2, f3, f4, f5⟩
    · have hd : (decide (1000000000 < Y) = true) ∨ (decide (1000000000 < Y) = false ∧ decide (Y < -1000000000) = true) := by
        by_cases h : 1000000000 < Y
        · left; simpa using h
        · right; exact ⟨by simpa using h, by simp; omega⟩
      have HQ : decide (wrap64 (r * r) < wrap64 (Y * Y)) = true ∨ decide (wrap64 (r * r) < wrap64 (Y * Y)) = false := by cases decide (wrap64 (r * r) < wrap64 (Y * Y)) <;> simp
      clear hy
      rcases HQ with hq' | hq' <;> rcases hd with hd | ⟨hd, hd'⟩
      all_goals
        refine wp_region_ext (by kernel_rfl) (by kernel_rfl) ?_
        repeat (go_big_quiet_step (first | (go_at_call 32; with_reducible exact Cls.call (C8.out _)) | (go_at_call 32; with_reducible exact Cls.call (C6.out _))))
        refine wpQuiet_nil ?_
        rintro _ ⟨y, rfl⟩
        go_wp2_with fail
        go_ret
        refine ⟨ret_bool ?_, ?_⟩
        · rfl
        · repeat first | with_reducible exact Below.refl _ _ | with_reducible refine Below.setCell ?_ (by first | omega | (simp; done) | (simp; omega)) _ | with_reducible refine Below.alloc ?_ (by first | omega | (simp; done) | (simp; omega)) _ | with_reducible refine Below.drew ?_ | with_reducible refine Ext.on _ ?_ (by first | omega | (simp; done) | (simp; omega))
    · have f6 : decide (r * r < Y * Y) = true := by simpa using f5
      refine wp_region_ext (by kernel_rfl) (by kernel_rfl) ?_
      repeat (go_big_quiet_step (first | (go_at_call 32; with_reducible exact Cls.call (C8.out _)) | (go_at_call 32; with_reducible exact Cls.call (C6.out _))))
      refine wpQuiet_nil ?_
      rintro _ ⟨y, rfl⟩
      go_wp2_with fail
      go_ret
      refine ⟨ret_bool ?_, ?_⟩
      · rfl
      · repeat first | with_reducible exact Below.refl _ _ | with_reducible refine Below.setCell ?_ (by first | omega | (simp; done) | (simp; omega)) _ | with_reducible refine Below.alloc ?_ (by first | omega | (simp; done) | (simp; omega)) _ | with_reducible refine Below.drew ?_ | with_reducible refine Ext.on _ ?_ (by first | omega | (simp; done) | (simp; omega))
end Go.Proofs.Ytgmpdngolpkjjaa
