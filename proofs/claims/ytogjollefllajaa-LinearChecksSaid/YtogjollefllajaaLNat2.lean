/-
  The program's natural numbers: sums.
-/
import Derived.Test.YtogjollefllajaaLDiv
import Derived.Laws.MakeOwn
set_option linter.unusedVariables false
namespace Go.Proofs.Ytogjollefllajaa
open Go Go.RowKit Go.Deep
theorem make_u64 (M : Nat) (hN : M ≤ 100000) (W : World) : Sem.run Try.prog (Instr.makeSlice 50 (.int .i64 ((M : Int) + 1)) (.int .i64 ((M : Int) + 1))) W = .ok (.slice (some ⟨W.heap.size, 0, none⟩) (M + 1) (M + 1)) (W.alloc (.cells (flatU (List.replicate (M + 1) 0)).toArray 82)) := by
  obtain ⟨i0, hi, hz0, hz1, hz2⟩ := info_parts infoU
  have := run_make (P := Try.prog) W 50 82 i0 _ Try.underlying50 hi hz0 .i64 .i64 ((M : Int) + 1) ((M : Int) + 1) (by omega) (by omega) (by rw [hz2]; omega) (by omega)
  rw [hz1, show ((M : Int) + 1).toNat = M + 1 by omega, zerosU] at this
  exact this
theorem plS_start (l m : List Nat) (N : Nat) : plS l m N 0 = List.replicate N 0 := by simp [plS, wplL]
theorem plD_lt (l m : List Nat) (k : Nat) : wplD l m k < 18446744073709551616 := by unfold wplD; omega
set_option maxHeartbeats 8000000 in
set_option maxRecDepth 20000 in
theorem lplus_calls (a : Option Addr) (n c : Nat) (a' : Option Addr) (n' c' : Nat) (x y : Nat) (w : World) (h : NatAt w ⟨a, n, c⟩ x) (h' : NatAt w ⟨a', n', c'⟩ y) (hn : n ≤ 1000) (hn' : n' ≤ 1000) :
    Calls Try.prog 91 #[.slice a n c, .slice a' n' c'] w fun e w' => ∃ s : Sl, e = .returned (.slice s.a s.len s.cap) ∧ NatAt w' s (x + y) ∧ Cls w w' := by
  have hle : n ≤ c := h.2.1
  have hmax : c ≤ maxLen := h.2.2.1
  have hle' : n' ≤ c' := h'.2.1
  have hmax' : c' ≤ maxLen := h'.2.2.1
  unfold maxLen at hmax hmax'
  have HL : Hid (n = (wdigs x).length) := Lib.hid h.1
  have HL' : Hid (n' = (wdigs y).length) := Lib.hid h'.1
  have HN := Lib.hid h
  have HN' := Lib.hid h'
  clear h h'
  by_cases hc : n < n'
  · have d1 : decide ((n : Int) < (n' : Int)) = true := by simp; omega
    have hmk : ∀ W, _ := fun W => make_u64 n' (by omega) W
    have HV := Lib.hid (plS_val (a := x) (b := y) (n := n' + 1) (by rw [← HL.out]; omega) (by rw [← HL'.out]; omega))
    go_enter Try.func91, Try.ntmps91
    go_wp2_with fail
    go_loopw [6, 17] (fun ca i wr => ∃ k : Nat, k ≤ n' + 1 ∧ i = .int .i64 k ∧ ca = .int .u64 (wplC (wdigs x) (wdigs y) k : Nat) ∧ Hid (Blk wr w.heap.size (plS (wdigs x) (wdigs y) (n' + 1) k)) ∧ Hid (Below w.heap.size w wr)) (fun _ i _ => 2000 - (intOf i).toNat)
    case atStart => exact ⟨0, by omega, rfl, rfl, Lib.hid (by rw [plS_start]; exact heap_alloc_new w _), Lib.hid ((Below.refl _ _).alloc (Nat.le_refl _) _)⟩
    case round =>
      obtain ⟨k, hk, rfl, rfl, hblk, hbel⟩ := hrel
      have hg := hblk.out.lt
      by_cases hlt : k < n' + 1
      · have C1 := Lib.hid (word_calls a n c (wdigs x) k wr (HN.out.later hbel.out))
        have C2 := Lib.hid (word_calls a' n' c' (wdigs y) k wr (HN'.out.later hbel.out))
        have hcb := wplC_le (wdg_digs x) (wdg_digs y) k
        have A1 : Hid (∀ W, (callFunc 93 #[.int .u64 ((wdigs x).getD k 0 : Nat), .int .u64 ((wdigs y).getD k 0 : Nat), .int .u64 (wplC (wdigs x) (wdigs y) k : Nat)]).run Try.prog W = .ok (.value (.tuple #[.int .u64 (wplD (wdigs x) (wdigs y) k : Nat), .int .u64 (wplC (wdigs x) (wdigs y) (k + 1) : Nat)])) W) := Lib.hid fun W => by
          rw [add64_nat _ _ _ hcb W]
          simp only [wplD, wplC, Nat.add_comm, Nat.add_left_comm, Nat.add_assoc]
        have z0 := hblk.out.cell (i := k) (by rw [plS_length _ _ _ _ hk]; exact hlt)
        have z1 := hblk.out.frozen k
        have HS : Hid (Blk (wr.setCell ⟨w.heap.size, k, none⟩ (.int .u64 (wplD (wdigs x) (wdigs y) k : Nat))) w.heap.size (plS (wdigs x) (wdigs y) (n' + 1) (k + 1))) := Lib.hid (by
          have := hblk.out.set k (wplD (wdigs x) (wdigs y) k)
          rwa [plS_next _ _ _ _ hlt] at this)
        have hkk : (k : Int) < (n' : Int) + 1 := by omega
        clear HN HN' hblk hcb HV
        generalize hc1 : wplC (wdigs x) (wdigs y) (k + 1) = c1 at *
        have HC1 := Lib.hid hc1
        clear hc1
        generalize wplC (wdigs x) (wdigs y) k = c0 at *
        generalize wplD (wdigs x) (wdigs y) k = d0 at *
        generalize (plS (wdigs x) (wdigs y) (n' + 1) k).getD k 0 = z at *
        generalize (wdigs x).getD k 0 = p at *
        generalize (wdigs y).getD k 0 = q at *
        go_wp2_with (first | (go_at_call 62; (with_reducible refine C1.out.mono ?_); rintro e _ ⟨rfl, rfl⟩) | (go_at_call 62; (with_reducible refine C2.out.mono ?_); rintro e _ ⟨rfl, rfl⟩) | (simp only [A1.out]))
        go_roundw
        case rel => exact ⟨k + 1, by omega, by go_num, by rw [HC1.out], HS, Lib.hid (hbel.out.setCell (by simp) _)⟩
        case measure => first | (simp [intOf]; done) | (simp [intOf]; omega)
      · obtain rfl : k = n' + 1 := by omega
        have U := hblk.out.uat (by rw [plS_length _ _ _ _ (Nat.le_refl _)]; unfold maxLen; omega)
        rw [plS_length _ _ _ _ (Nat.le_refl _)] at U
        have T1 := Lib.hid (trimmed_calls _ _ _ _ wr U HV.out.2)
        have T2 := Lib.hid (ltrimmed U HV.out.2)
        rw [HV.out.1] at T1 T2
        have hkk : ¬ ((n' + 1 : Nat) : Int) < (n' : Int) + 1 := by omega
        clear HN HN' U HV hblk
        go_wp2_with (go_at_call 90; (with_reducible refine T1.out.mono ?_); rintro e _ ⟨rfl, rfl⟩)
        go_ret
        exact ⟨⟨_, _, _⟩, rfl, T2.out, Cls.of hbel.out⟩
  · have d1 : decide ((n : Int) < (n' : Int)) = false := by simp; omega
    have hmk : ∀ W, _ := fun W => make_u64 n (by omega) W
    have HV := Lib.hid (plS_val (a := x) (b := y) (n := n + 1) (by rw [← HL.out]; omega) (by rw [← HL'.out]; omega))
    go_enter Try.func91, Try.ntmps91
    go_wp2_with fail
    go_loopw [6, 17] (fun ca i wr => ∃ k : Nat, k ≤ n + 1 ∧ i = .int .i64 k ∧ ca = .int .u64 (wplC (wdigs x) (wdigs y) k : Nat) ∧ Hid (Blk wr w.heap.size (plS (wdigs x) (wdigs y) (n + 1) k)) ∧ Hid (Below w.heap.size w wr)) (fun _ i _ => 2000 - (intOf i).toNat)
    case atStart => exact ⟨0, by omega, rfl, rfl, Lib.hid (by rw [plS_start]; exact heap_alloc_new w _), Lib.hid ((Below.refl _ _).alloc (Nat.le_refl _) _)⟩
    case round =>
      obtain ⟨k, hk, rfl, rfl, hblk, hbel⟩ := hrel
      have hg := hblk.out.lt
      by_cases hlt : k < n + 1
      · have C1 := Lib.hid (word_calls a n c (wdigs x) k wr (HN.out.later hbel.out))
        have C2 := Lib.hid (word_calls a' n' c' (wdigs y) k wr (HN'.out.later hbel.out))
        have hcb := wplC_le (wdg_digs x) (wdg_digs y) k
        have A1 : Hid (∀ W, (callFunc 93 #[.int .u64 ((wdigs x).getD k 0 : Nat), .int .u64 ((wdigs y).getD k 0 : Nat), .int .u64 (wplC (wdigs x) (wdigs y) k : Nat)]).run Try.prog W = .ok (.value (.tuple #[.int .u64 (wplD (wdigs x) (wdigs y) k : Nat), .int .u64 (wplC (wdigs x) (wdigs y) (k + 1) : Nat)])) W) := Lib.hid fun W => by
          rw [add64_nat _ _ _ hcb W]
          simp only [wplD, wplC, Nat.add_comm, Nat.add_left_comm, Nat.add_assoc]
        have z0 := hblk.out.cell (i := k) (by rw [plS_length _ _ _ _ hk]; exact hlt)
        have z1 := hblk.out.frozen k
        have HS : Hid (Blk (wr.setCell ⟨w.heap.size, k, none⟩ (.int .u64 (wplD (wdigs x) (wdigs y) k : Nat))) w.heap.size (plS (wdigs x) (wdigs y) (n + 1) (k + 1))) := Lib.hid (by
          have := hblk.out.set k (wplD (wdigs x) (wdigs y) k)
          rwa [plS_next _ _ _ _ hlt] at this)
        have hkk : (k : Int) < (n : Int) + 1 := by omega
        clear HN HN' hblk hcb HV
        generalize hc1 : wplC (wdigs x) (wdigs y) (k + 1) = c1 at *
        have HC1 := Lib.hid hc1
        clear hc1
        generalize wplC (wdigs x) (wdigs y) k = c0 at *
        generalize wplD (wdigs x) (wdigs y) k = d0 at *
        generalize (plS (wdigs x) (wdigs y) (n + 1) k).getD k 0 = z at *
        generalize (wdigs x).getD k 0 = p at *
        generalize (wdigs y).getD k 0 = q at *
        go_wp2_with (first | (go_at_call 62; (with_reducible refine C1.out.mono ?_); rintro e _ ⟨rfl, rfl⟩) | (go_at_call 62; (with_reducible refine C2.out.mono ?_); rintro e _ ⟨rfl, rfl⟩) | (simp only [A1.out]))
        go_roundw
        case rel => exact ⟨k + 1, by omega, by go_num, by rw [HC1.out], HS, Lib.hid (hbel.out.setCell (by simp) _)⟩
        case measure => first | (simp [intOf]; done) | (simp [intOf]; omega)
      · obtain rfl : k = n + 1 := by omega
        have U := hblk.out.uat (by rw [plS_length _ _ _ _ (Nat.le_refl _)]; unfold maxLen; omega)
        rw [plS_length _ _ _ _ (Nat.le_refl _)] at U
        have T1 := Lib.hid (trimmed_calls _ _ _ _ wr U HV.out.2)
        have T2 := Lib.hid (ltrimmed U HV.out.2)
        rw [HV.out.1] at T1 T2
        have hkk : ¬ ((n + 1 : Nat) : Int) < (n : Int) + 1 := by omega
        clear HN HN' U HV hblk
        go_wp2_with (go_at_call 90; (with_reducible refine T1.out.mono ?_); rintro e _ ⟨rfl, rfl⟩)
        go_ret
        exact ⟨⟨_, _, _⟩, rfl, T2.out, Cls.of hbel.out⟩
end Go.Proofs.Ytogjollefllajaa
