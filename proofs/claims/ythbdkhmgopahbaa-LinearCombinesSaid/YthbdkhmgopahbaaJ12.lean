/-
  The program's natural numbers: sums. The program's natural numbers: products by a word. The program's natural numbers: quotients by a word, and common divisors. The program's natural numbers: differences. The program's natural numbers: how they compare.
-/
import Derived.Test.YthbdkhmgopahbaaJ11
import Derived.Laws.MakeOwn
import Derived.Laws.OwnMore
import Derived.Lib.SliceRun
import Derived.Deep.RegionHeld3
import Derived.Deep.CutBlock
import Derived.Deep.DeepCutAuto
set_option linter.unusedVariables false
namespace Go.Proofs.Ythbdkhmgopahbaa
open Go Go.RowKit Go.Deep
theorem make_u64 (M : Nat) (hN : M ≤ 100000) (W : World) : Sem.run Try.prog (Instr.makeSlice 55 (.int .i64 ((M : Int) + 1)) (.int .i64 ((M : Int) + 1))) W = .ok (.slice (some ⟨W.heap.size, 0, none⟩) (M + 1) (M + 1)) (W.alloc (.cells (flatU (List.replicate (M + 1) 0)).toArray 91)) := by
  obtain ⟨i0, hi, hz0, hz1, hz2⟩ := info_parts infoU
  have := run_make (P := Try.prog) W 55 91 i0 _ Try.underlying55 hi hz0 .i64 .i64 ((M : Int) + 1) ((M : Int) + 1) (by omega) (by omega) (by rw [hz2]; omega) (by omega)
  rw [hz1, show ((M : Int) + 1).toNat = M + 1 by omega, zerosU] at this
  exact this
theorem plS_start (l m : List Nat) (N : Nat) : plS l m N 0 = List.replicate N 0 := by simp [plS, wplL]
theorem plD_lt (l m : List Nat) (k : Nat) : wplD l m k < 18446744073709551616 := by unfold wplD; omega
set_option maxHeartbeats 8000000 in
set_option maxRecDepth 20000 in
theorem lplus_calls (a : Option Addr) (n c : Nat) (a' : Option Addr) (n' c' : Nat) (x y : Nat) (w : World) (h : NatAt w ⟨a, n, c⟩ x) (h' : NatAt w ⟨a', n', c'⟩ y) (hn : n ≤ 1000) (hn' : n' ≤ 1000) :
    Calls Try.prog 106 #[.slice a n c, .slice a' n' c'] w fun e w' => ∃ s : Sl, e = .returned (.slice s.a s.len s.cap) ∧ NatAt w' s (x + y) ∧ Cls w w' := by
  have hle : n ≤ c := h.2.1
  have hmax : c ≤ maxLen := h.2.2.1
  have hle' : n' ≤ c' := h'.2.1
  have hmax' : c' ≤ maxLen := h'.2.2.1
  unfold maxLen at hmax hmax'
  have HL : Hid (n = (wdigs x).length) := Lib.hid h.1
  have HL' : Hid (n' = (wdigs y).length) := Lib.hid h'.1
  have HN := Lib.hid h
  have HN' := Lib.hid h'
  clear h h'
  by_cases hc : n < n'
  · have d1 : decide ((n : Int) < (n' : Int)) = true := by simp; omega
    have hmk : ∀ W, _ := fun W => make_u64 n' (by omega) W
    have HV := Lib.hid (plS_val (a := x) (b := y) (n := n' + 1) (by rw [← HL.out]; omega) (by rw [← HL'.out]; omega))
    go_enter Try.func106, Try.ntmps106
    go_wp2_with fail
    go_loopw [6, 17] (fun ca i wr => ∃ k : Nat, k ≤ n' + 1 ∧ i = .int .i64 k ∧ ca = .int .u64 (wplC (wdigs x) (wdigs y) k : Nat) ∧ Hid (Blk wr w.heap.size (plS (wdigs x) (wdigs y) (n' + 1) k)) ∧ Hid (Below w.heap.size w wr)) (fun _ i _ => 2000 - (intOf i).toNat)
    case atStart => exact ⟨0, by omega, rfl, rfl, Lib.hid (by rw [plS_start]; exact heap_alloc_new w _), Lib.hid ((Below.refl _ _).alloc (Nat.le_refl _) _)⟩
    case round =>
      obtain ⟨k, hk, rfl, rfl, hblk, hbel⟩ := hrel
      have hg := hblk.out.lt
      by_cases hlt : k < n' + 1
      · have C1 := Lib.hid (word_calls a n c (wdigs x) k wr (HN.out.later hbel.out))
        have C2 := Lib.hid (word_calls a' n' c' (wdigs y) k wr (HN'.out.later hbel.out))
        have hcb := wplC_le (wdg_digs x) (wdg_digs y) k
        have A1 : Hid (∀ W, (callFunc 109 #[.int .u64 ((wdigs x).getD k 0 : Nat), .int .u64 ((wdigs y).getD k 0 : Nat), .int .u64 (wplC (wdigs x) (wdigs y) k : Nat)]).run Try.prog W = .ok (.value (.tuple #[.int .u64 (wplD (wdigs x) (wdigs y) k : Nat), .int .u64 (wplC (wdigs x) (wdigs y) (k + 1) : Nat)])) W) := Lib.hid fun W => by
          rw [add64_nat _ _ _ hcb W]
          simp only [wplD, wplC, Nat.add_comm, Nat.add_left_comm, Nat.add_assoc]
        have z0 := hblk.out.cell (i := k) (by rw [plS_length _ _ _ _ hk]; exact hlt)
        have z1 := hblk.out.frozen k
        have HS : Hid (Blk (wr.setCell ⟨w.heap.size, k, none⟩ (.int .u64 (wplD (wdigs x) (wdigs y) k : Nat))) w.heap.size (plS (wdigs x) (wdigs y) (n' + 1) (k + 1))) := Lib.hid (by
          have := hblk.out.set k (wplD (wdigs x) (wdigs y) k)
          rwa [plS_next _ _ _ _ hlt] at this)
        have hkk : (k : Int) < (n' : Int) + 1 := by omega
        clear HN HN' hblk hcb HV
        generalize hc1 : wplC (wdigs x) (wdigs y) (k + 1) = c1 at *
        have HC1 := Lib.hid hc1
        clear hc1
        generalize wplC (wdigs x) (wdigs y) k = c0 at *
        generalize wplD (wdigs x) (wdigs y) k = d0 at *
        generalize (plS (wdigs x) (wdigs y) (n' + 1) k).getD k 0 = z at *
        generalize (wdigs x).getD k 0 = p at *
        generalize (wdigs y).getD k 0 = q at *
        go_wp2_with (first | (go_at_call 60; (with_reducible refine C1.out.mono ?_); rintro e _ ⟨rfl, rfl⟩) | (go_at_call 60; (with_reducible refine C2.out.mono ?_); rintro e _ ⟨rfl, rfl⟩) | (simp only [A1.out]))
        go_roundw
        case rel => exact ⟨k + 1, by omega, by go_num, by rw [HC1.out], HS, Lib.hid (hbel.out.setCell (by simp) _)⟩
        case measure => first | (simp [intOf]; done) | (simp [intOf]; omega)
      · obtain rfl : k = n' + 1 := by omega
        have U := hblk.out.uat (by rw [plS_length _ _ _ _ (Nat.le_refl _)]; unfold maxLen; omega)
        rw [plS_length _ _ _ _ (Nat.le_refl _)] at U
        have T1 := Lib.hid (trimmed_calls _ _ _ _ wr U HV.out.2)
        have T2 := Lib.hid (ltrimmed U HV.out.2)
        rw [HV.out.1] at T1 T2
        have hkk : ¬ ((n' + 1 : Nat) : Int) < (n' : Int) + 1 := by omega
        clear HN HN' U HV hblk
        go_wp2_with (go_at_call 105; (with_reducible refine T1.out.mono ?_); rintro e _ ⟨rfl, rfl⟩)
        go_ret
        exact ⟨⟨_, _, _⟩, rfl, T2.out, Cls.of hbel.out⟩
  · have d1 : decide ((n : Int) < (n' : Int)) = false := by simp; omega
    have hmk : ∀ W, _ := fun W => make_u64 n (by omega) W
    have HV := Lib.hid (plS_val (a := x) (b := y) (n := n + 1) (by rw [← HL.out]; omega) (by rw [← HL'.out]; omega))
    go_enter Try.func106, Try.ntmps106
    go_wp2_with fail
    go_loopw [6, 17] (fun ca i wr => ∃ k : Nat, k ≤ n + 1 ∧ i = .int .i64 k ∧ ca = .int .u64 (wplC (wdigs x) (wdigs y) k : Nat) ∧ Hid (Blk wr w.heap.size (plS (wdigs x) (wdigs y) (n + 1) k)) ∧ Hid (Below w.heap.size w wr)) (fun _ i _ => 2000 - (intOf i).toNat)
    case atStart => exact ⟨0, by omega, rfl, rfl, Lib.hid (by rw [plS_start]; exact heap_alloc_new w _), Lib.hid ((Below.refl _ _).alloc (Nat.le_refl _) _)⟩
    case round =>
      obtain ⟨k, hk, rfl, rfl, hblk, hbel⟩ := hrel
      have hg := hblk.out.lt
      by_cases hlt : k < n + 1
      · have C1 := Lib.hid (word_calls a n c (wdigs x) k wr (HN.out.later hbel.out))
        have C2 := Lib.hid (word_calls a' n' c' (wdigs y) k wr (HN'.out.later hbel.out))
        have hcb := wplC_le (wdg_digs x) (wdg_digs y) k
        have A1 : Hid (∀ W, (callFunc 109 #[.int .u64 ((wdigs x).getD k 0 : Nat), .int .u64 ((wdigs y).getD k 0 : Nat), .int .u64 (wplC (wdigs x) (wdigs y) k : Nat)]).run Try.prog W = .ok (.value (.tuple #[.int .u64 (wplD (wdigs x) (wdigs y) k : Nat), .int .u64 (wplC (wdigs x) (wdigs y) (k + 1) : Nat)])) W) := Lib.hid fun W => by
          rw [add64_nat _ _ _ hcb W]
          simp only [wplD, wplC, Nat.add_comm, Nat.add_left_comm, Nat.add_assoc]
        have z0 := hblk.out.cell (i := k) (by rw [plS_length _ _ _ _ hk]; exact hlt)
        have z1 := hblk.out.frozen k
        have HS : Hid (Blk (wr.setCell ⟨w.heap.size, k, none⟩ (.int .u64 (wplD (wdigs x) (wdigs y) k : Nat))) w.heap.size (plS (wdigs x) (wdigs y) (n + 1) (k + 1))) := Lib.hid (by
          have := hblk.out.set k (wplD (wdigs x) (wdigs y) k)
          rwa [plS_next _ _ _ _ hlt] at this)
        have hkk : (k : Int) < (n : Int) + 1 := by omega
        clear HN HN' hblk hcb HV
        generalize hc1 : wplC (wdigs x) (wdigs y) (k + 1) = c1 at *
        have HC1 := Lib.hid hc1
        clear hc1
        generalize wplC (wdigs x) (wdigs y) k = c0 at *
        generalize wplD (wdigs x) (wdigs y) k = d0 at *
        generalize (plS (wdigs x) (wdigs y) (n + 1) k).getD k 0 = z at *
        generalize (wdigs x).getD k 0 = p at *
        generalize (wdigs y).getD k 0 = q at *
        go_wp2_with (first | (go_at_call 60; (with_reducible refine C1.out.mono ?_); rintro e _ ⟨rfl, rfl⟩) | (go_at_call 60; (with_reducible refine C2.out.mono ?_); rintro e _ ⟨rfl, rfl⟩) | (simp only [A1.out]))
        go_roundw
        case rel => exact ⟨k + 1, by omega, by go_num, by rw [HC1.out], HS, Lib.hid (hbel.out.setCell (by simp) _)⟩
        case measure => first | (simp [intOf]; done) | (simp [intOf]; omega)
      · obtain rfl : k = n + 1 := by omega
        have U := hblk.out.uat (by rw [plS_length _ _ _ _ (Nat.le_refl _)]; unfold maxLen; omega)
        rw [plS_length _ _ _ _ (Nat.le_refl _)] at U
        have T1 := Lib.hid (trimmed_calls _ _ _ _ wr U HV.out.2)
        have T2 := Lib.hid (ltrimmed U HV.out.2)
        rw [HV.out.1] at T1 T2
        have hkk : ¬ ((n + 1 : Nat) : Int) < (n : Int) + 1 := by omega
        clear HN HN' U HV hblk
        go_wp2_with (go_at_call 105; (with_reducible refine T1.out.mono ?_); rintro e _ ⟨rfl, rfl⟩)
        go_ret
        exact ⟨⟨_, _, _⟩, rfl, T2.out, Cls.of hbel.out⟩
end Go.Proofs.Ythbdkhmgopahbaa
set_option linter.unusedVariables false
namespace Go.Proofs.Ythbdkhmgopahbaa
open Go Go.RowKit Go.Deep
theorem tm_parts (p u c : Nat) : (c + p * u % 18446744073709551616 + 0) % 18446744073709551616 = (p * u + c) % 18446744073709551616 ∧ p * u / 18446744073709551616 + (c + p * u % 18446744073709551616 + 0) / 18446744073709551616 = (p * u + c) / 18446744073709551616 := by
  generalize p * u = m
  omega
set_option maxHeartbeats 8000000 in
set_option maxRecDepth 20000 in
theorem ltimes_calls (a : Option Addr) (n c : Nat) (x u : Nat) (w : World) (h : NatAt w ⟨a, n, c⟩ x) (hn : n ≤ 1000) (hu : u < 18446744073709551616) :
    Calls Try.prog 93 #[.slice a n c, .int .u64 u] w fun e w' => ∃ s : Sl, e = .returned (.slice s.a s.len s.cap) ∧ NatAt w' s (x * u) ∧ Cls w w' := by
  by_cases h1 : u = 1
  · subst h1
    have HN := Lib.hid h
    clear h
    go_enter Try.func93, Try.ntmps93
    go_wp2_with fail
    go_ret
    exact ⟨⟨a, n, c⟩, rfl, by rw [Nat.mul_one]; exact HN.out, Cls.of (Below.refl _ _)⟩
  · have b1 : ((u : Int) == 1) = false := by simp; omega
    have hle : n ≤ c := h.2.1
    have hmax : c ≤ maxLen := h.2.2.1
    unfold maxLen at hmax
    have HL : Hid (n = (wdigs x).length) := Lib.hid h.1
    have H := Lib.hid h.2.2.2
    have HV := Lib.hid (tmS_val (wdg_digs x) hu)
    rw [wvl_digs, ← HL.out] at HV
    have HLt : Hid (∀ k, k ≤ n → (tmS (wdigs x) u n k).length = n + 1) := Lib.hid fun k hk => tmS_length _ _ _ _ hk
    have hmk : ∀ W, _ := fun W => make_u64 n (by omega) W
    clear h h1
    go_enter Try.func93, Try.ntmps93
    go_wp2_with fail
    go_loopw [20] (fun i wr => ∃ k : Nat, k ≤ n ∧ i = .int .i64 k ∧ Hid (Blk wr w.heap.size (tmS (wdigs x) u n k)) ∧ Hid (Below w.heap.size w wr)) (fun i _ => 2000 - (intOf i).toNat)
    case atStart => exact ⟨0, by omega, rfl, Lib.hid (by rw [tmS_zero]; exact heap_alloc_new w _), Lib.hid ((Below.refl _ _).alloc (Nat.le_refl _) _)⟩
    case round =>
      obtain ⟨k, hk, rfl, hblk, hbel⟩ := hrel
      have hg := hblk.out.lt
      by_cases hlt : k < n
      · obtain ⟨b, off, ea, hb, hcell⟩ := H.out.resolve_left (by show ¬ n = 0; omega)
        have ea1 : a = some ⟨b, off, none⟩ := ea
        subst ea1
        clear ea
        have q := (hbel.out.cell (p := ⟨b, off + k, none⟩) hb).trans (hcell k hlt)
        have hbs := hbel.out.size
        have hb2 : b < wr.heap.size := by omega
        have hp := (wdg_digs x).getD k
        have hc0 := tmC_lt (wdg_digs x) hu k
        have hc1 := tmC_lt (wdg_digs x) hu (k + 1)
        obtain ⟨m1, m2⟩ := tm_parts ((wdigs x).getD k 0) u (tmC (wdigs x) u k)
        have C1 : Hid (Calls Try.prog 108 #[.int .u64 ((wdigs x).getD k 0 : Nat), .int .u64 u] wr fun e w' => e = .returned (.tuple #[.int .u64 (((wdigs x).getD k 0 * u / 18446744073709551616 : Nat) : Int), .int .u64 (((wdigs x).getD k 0 * u % 18446744073709551616 : Nat) : Int)]) ∧ wr = w') := Lib.hid ((Mul64_calls _ _ hp hu wr).mono fun _ _ ⟨e1, e2⟩ => ⟨e1, e2.symm⟩)
        have A1 : Hid (∀ W, (callFunc 109 #[.int .u64 (tmC (wdigs x) u k : Nat), .int .u64 ((wdigs x).getD k 0 * u % 18446744073709551616 : Nat), .int .u64 0]).run Try.prog W = .ok (.value (.tuple #[.int .u64 (tmD (wdigs x) u k : Nat), .int .u64 ((tmC (wdigs x) u k + (wdigs x).getD k 0 * u % 18446744073709551616 + 0) / 18446744073709551616 : Nat)])) W) := Lib.hid fun W => by
          have := add64_nat (tmC (wdigs x) u k) ((wdigs x).getD k 0 * u % 18446744073709551616) 0 (by omega) W
          rw [m1] at this
          exact this
        have E2 : IntKind.u64.wrap ((((wdigs x).getD k 0 * u / 18446744073709551616 : Nat) : Int) + (((tmC (wdigs x) u k + (wdigs x).getD k 0 * u % 18446744073709551616 + 0) / 18446744073709551616 : Nat) : Int)) = (tmC (wdigs x) u (k + 1) : Nat) := by
          have e : tmC (wdigs x) u (k + 1) = (wdigs x).getD k 0 * u / 18446744073709551616 + (tmC (wdigs x) u k + (wdigs x).getD k 0 * u % 18446744073709551616 + 0) / 18446744073709551616 := by rw [m2]; rfl
          rw [e] at hc1 ⊢
          rw [IntKind.wrap_u64]
          omega
        have z0 := hblk.out.cell (i := k) (by rw [HLt.out _ hk]; omega)
        rw [tmS_at] at z0
        have z1 := hblk.out.frozen k
        have y0 := hblk.out.cell (i := k + 1) (by rw [HLt.out _ hk]; omega)
        have y1 := hblk.out.frozen (k + 1)
        have HS : Hid (Blk ((wr.setCell ⟨w.heap.size, k, none⟩ (.int .u64 (tmD (wdigs x) u k : Nat))).setCell ⟨w.heap.size, k + 1, none⟩ (.int .u64 (tmC (wdigs x) u (k + 1) : Nat))) w.heap.size (tmS (wdigs x) u n (k + 1))) := Lib.hid (by
          have := (hblk.out.set k (tmD (wdigs x) u k)).set (k + 1) (tmC (wdigs x) u (k + 1))
          rwa [tmS_next _ _ _ _ hlt] at this)
        have hkk : (k : Int) < (n : Int) + 1 := by omega
        have hkk2 : (k : Int) + 1 < (n : Int) + 1 := by omega
        have e1 : ((k : Int) + 1).toNat = k + 1 := by omega
        clear H hcell hblk HV HLt m1 m2 hp hc0 hc1
        generalize (tmS (wdigs x) u n k).getD (k + 1) 0 = z at *
        generalize (tmC (wdigs x) u k + (wdigs x).getD k 0 * u % 18446744073709551616 + 0) / 18446744073709551616 = ca at *
        generalize (wdigs x).getD k 0 * u / 18446744073709551616 = hi at *
        generalize (wdigs x).getD k 0 * u % 18446744073709551616 = lo at *
        generalize tmC (wdigs x) u (k + 1) = c1 at *
        generalize tmC (wdigs x) u k = c0 at *
        generalize tmD (wdigs x) u k = d0 at *
        generalize (wdigs x).getD k 0 = p at *
        go_wp2_with (first | (go_at_call 108; (with_reducible refine C1.out.mono ?_); rintro e _ ⟨rfl, rfl⟩) | (simp only [A1.out]))
        go_roundw
        case rel => exact ⟨k + 1, by omega, by go_num, HS, Lib.hid ((hbel.out.setCell (by simp) _).setCell (by simp) _)⟩
        case measure => first | (simp [intOf]; done) | (simp [intOf]; omega)
      · obtain rfl : k = n := by omega
        have U := hblk.out.uat (by rw [HLt.out _ hk]; unfold maxLen; omega)
        rw [HLt.out _ hk] at U
        have T1 := Lib.hid (trimmed_calls _ _ _ _ wr U HV.out.2)
        have T2 := Lib.hid (ltrimmed U HV.out.2)
        rw [HV.out.1] at T1 T2
        clear U HV hblk H HLt
        go_wp2_with (go_at_call 105; (with_reducible refine T1.out.mono ?_); rintro e _ ⟨rfl, rfl⟩)
        go_ret
        exact ⟨⟨_, _, _⟩, rfl, T2.out, Cls.of hbel.out⟩
end Go.Proofs.Ythbdkhmgopahbaa
set_option linter.unusedVariables false
namespace Go.Proofs.Ythbdkhmgopahbaa
open Go Go.RowKit Go.Deep
theorem make_u64n (M : Nat) (hN : M ≤ 100000) (W : World) : Sem.run Try.prog (Instr.makeSlice 55 (.int .i64 (M : Int)) (.int .i64 (M : Int))) W = .ok (.slice (some ⟨W.heap.size, 0, none⟩) M M) (W.alloc (.cells (flatU (List.replicate M 0)).toArray 91)) := by
  obtain ⟨i0, hi, hz0, hz1, hz2⟩ := info_parts infoU
  have := run_make (P := Try.prog) W 55 91 i0 _ Try.underlying55 hi hz0 .i64 .i64 (M : Int) (M : Int) (by omega) (by omega) (by rw [hz2]; omega) (by omega)
  rw [hz1, show (M : Int).toNat = M by omega, zerosU] at this
  exact this
set_option maxHeartbeats 8000000 in
set_option maxRecDepth 20000 in
theorem lover_calls (a : Option Addr) (n c : Nat) (x u : Nat) (w : World) (h : NatAt w ⟨a, n, c⟩ x) (hn : n ≤ 1000) (hu0 : 0 < u) (hu : u < 18446744073709551616) :
    Calls Try.prog 89 #[.slice a n c, .int .u64 u] w fun e w' => ∃ s : Sl, e = .returned (.tuple #[.slice s.a s.len s.cap, .int .u64 ((x % u : Nat) : Int)]) ∧ NatAt w' s (x / u) ∧ Cls w w' := by
  by_cases h1 : u = 1
  · subst h1
    have HN := Lib.hid h
    clear h
    rw [Nat.mod_one]
    go_enter Try.func89, Try.ntmps89
    go_wp2_with fail
    go_ret2
    exact ⟨⟨a, n, c⟩, rfl, by rw [Nat.div_one]; exact HN.out, Cls.of (Below.refl _ _)⟩
  · have b1 : ((u : Int) == 1) = false := by simp; omega
    have hle : n ≤ c := h.2.1
    have hmax : c ≤ maxLen := h.2.2.1
    unfold maxLen at hmax
    have HL : Hid (n = (wdigs x).length) := Lib.hid h.1
    have H := Lib.hid h.2.2.2
    have HV := Lib.hid (ovS_val (wdg_digs x) hu0)
    rw [wvl_digs] at HV
    have HLt : Hid (∀ k, (ovS (wdigs x) u k).length = n) := Lib.hid fun k => by rw [ovS_length, HL.out]
    have hmk : ∀ W, _ := fun W => make_u64n n (by omega) W
    have HM : Hid (wvl ((wdigs x).drop 0) % u = x % u) := Lib.hid (by rw [List.drop_zero, wvl_digs])
    clear h h1
    go_enter Try.func89, Try.ntmps89
    go_wp2_with fail
    go_loopw [7, 8] (fun r i wr => ∃ k : Nat, k ≤ n ∧ i = .int .i64 ((k : Int) - 1) ∧ r = .int .u64 (wvl ((wdigs x).drop k) % u : Nat) ∧ Hid (Blk wr w.heap.size (ovS (wdigs x) u k)) ∧ Hid (Below w.heap.size w wr)) (fun _ i _ => (intOf i + 1).toNat)
    case atStart => exact ⟨n, Nat.le_refl _, rfl, by rw [List.drop_eq_nil_of_le (by rw [← HL.out]; exact Nat.le_refl _)]; simp [wvl], Lib.hid (by have := ovS_start (wdigs x) u; rw [← HL.out] at this; rw [this]; exact heap_alloc_new w _), Lib.hid ((Below.refl _ _).alloc (Nat.le_refl _) _)⟩
    case round =>
      obtain ⟨k, hk, rfl, rfl, hblk, hbel⟩ := hrel
      have hg := hblk.out.lt
      by_cases h0 : 0 < k
      · obtain ⟨j, rfl⟩ : ∃ j, k = j + 1 := ⟨k - 1, by omega⟩
        obtain ⟨b, off, ea, hb, hcell⟩ := H.out.resolve_left (by show ¬ n = 0; omega)
        have ea1 : a = some ⟨b, off, none⟩ := ea
        subst ea1
        clear ea
        have q := (hbel.out.cell (p := ⟨b, off + j, none⟩) hb).trans (hcell j (by show j < n; omega))
        have hbs := hbel.out.size
        have hb2 : b < wr.heap.size := by omega
        have hp := (wdg_digs x).getD j
        have hr := Nat.mod_lt (wvl ((wdigs x).drop (j + 1))) hu0
        have hq := ovD_lt (wdg_digs x) hu0 j
        have hst := (ov_step (wdigs x) hu0 j).2
        have C1 : Hid (Calls Try.prog 104 #[.int .u64 (wvl ((wdigs x).drop (j + 1)) % u : Nat), .int .u64 ((wdigs x).getD j 0 : Nat), .int .u64 u] wr fun e w' => e = .returned (.tuple #[.int .u64 ((ovD (wdigs x) u j : Nat) : Int), .int .u64 ((wvl ((wdigs x).drop j) % u : Nat) : Int)]) ∧ Cls wr w') := Lib.hid (by
          rw [hst]; exact Div64_calls _ _ u wr hr hu hp)
        have z0 : ∀ y : Ext wr, y.val.cell? ⟨w.heap.size, j, none⟩ = some (.int .u64 ((ovS (wdigs x) u (j + 1)).getD j 0 : Nat)) := fun y => (hblk.out.later y.below).cell (by rw [HLt.out]; omega)
        have z1 : ∀ y : Ext wr, y.val.frozen? ⟨w.heap.size, j, none⟩ = false := fun y => (hblk.out.later y.below).frozen j
        have HS : Hid (∀ y : Ext wr, Blk (y.val.setCell ⟨w.heap.size, j, none⟩ (.int .u64 (ovD (wdigs x) u j : Nat))) w.heap.size (ovS (wdigs x) u j)) := Lib.hid (fun y => by
          have := (hblk.out.later y.below).set j (ovD (wdigs x) u j)
          rwa [ovS_next _ _ _ (by rw [← HL.out]; omega)] at this)
        have e0 : ((j + 1 : Nat) : Int) - 1 = (j : Int) := by omega
        rw [e0]
        clear e0 H hcell hblk HV HLt hst hr hp hq
        generalize (ovS (wdigs x) u (j + 1)).getD j 0 = z at *
        generalize hr1 : wvl ((wdigs x).drop j) % u = r1 at *
        have HR1 := Lib.hid hr1
        clear hr1
        generalize wvl ((wdigs x).drop (j + 1)) % u = r0 at *
        generalize ovD (wdigs x) u j = d0 at *
        generalize (wdigs x).getD j 0 = p at *
        go_wp2_with (go_at_call 104; (with_reducible refine C1.out.mono ?_); rintro e _ ⟨rfl, ⟨y, rfl⟩⟩; have ys := y.size; have hgy : w.heap.size < y.val.heap.size := (by omega); have Z0 := z0 y; have Z1 := z1 y)
        go_roundw
        case rel => exact ⟨j, by omega, rfl, by rw [HR1.out], Lib.hid (HS.out y), Lib.hid ((y.on hbel.out hbs).setCell (by simp) _)⟩
        case measure => first | (simp [intOf]; done) | (simp [intOf]; omega)
      · obtain rfl : k = 0 := by omega
        have U := hblk.out.uat (by rw [HLt.out]; unfold maxLen; omega)
        rw [HLt.out] at U
        have T1 := Lib.hid (trimmed_calls _ _ _ _ wr U HV.out.2)
        have T2 := Lib.hid (ltrimmed U HV.out.2)
        rw [HV.out.1] at T1 T2
        clear U HV hblk H HLt
        rw [HM.out]
        go_wp2_with (go_at_call 105; (with_reducible refine T1.out.mono ?_); rintro e _ ⟨rfl, rfl⟩)
        go_ret2
        exact ⟨⟨_, _, _⟩, rfl, T2.out, Cls.of hbel.out⟩
set_option maxHeartbeats 2000000 in
set_option maxRecDepth 20000 in
theorem lshared_calls (a : Option Addr) (n c : Nat) (x u : Nat) (w : World) (h : NatAt w ⟨a, n, c⟩ x) (hn : n ≤ 1000) (hu0 : 0 < u) (hu : u < 18446744073709551616) :
    Calls Try.prog 88 #[.slice a n c, .int .u64 u] w fun e w' => e = .returned (.int .u64 ((Nat.gcd x u : Nat) : Int)) ∧ Cls w w' := by
  have C1 := Lib.hid (lover_calls a n c x u w h hn hu0 hu)
  have C2 := Lib.hid (fun W => ldivisor_calls u (x % u) W hu (Nat.lt_trans (Nat.mod_lt _ hu0) hu))
  have e : Nat.gcd u (x % u) = Nat.gcd x u := by rw [Nat.gcd_comm u, ← Nat.gcd_rec, Nat.gcd_comm]
  rw [e] at C2
  clear e h hn hu0 hu
  generalize Nat.gcd x u = g at *
  generalize x % u = r at *
  generalize x / u = q at *
  go_enter Try.func88, Try.ntmps88
  go_wp2_with (first | (go_at_call 89; (with_reducible refine C1.out.mono ?_); rintro e _ ⟨s, rfl, hs, ⟨y, rfl⟩⟩; have ys := y.size) | (go_at_call 86; (with_reducible refine (C2.out _).mono ?_); rintro e _ ⟨rfl, ⟨y2, rfl⟩⟩))
  go_ret
  exact ⟨rfl, Cls.of (y2.on y.below ys)⟩
end Go.Proofs.Ythbdkhmgopahbaa
set_option linter.unusedVariables false
namespace Go.Proofs.Ythbdkhmgopahbaa
open Go Go.RowKit Go.Deep
theorem cellsU {W : World} {b off : Nat} {l : List Nat} {n : Nat} (hl : n = l.length) (hc : ∀ i, i < n → W.cell? ⟨b, off + i, none⟩ = some (.int .u64 (l.getD i 0))) : ∀ j u, (flatU l)[j]? = some u → W.cell? ((⟨b, off, none⟩ : Addr).add j) = some u := by
  intro j u hj
  have hjl : j < l.length := by have h := (List.getElem?_eq_some_iff.1 hj).1; simpa [flatU] using h
  rw [add_none, hc j (by omega), ← hj]
  simp [flatU, List.getD, hjl]
set_option maxHeartbeats 4000000 in
set_option maxRecDepth 100000 in
theorem lcloneW_calls (l : List Nat) (a : Option Addr) (n c : Nat) (w : World) (hs : UAt w ⟨a, n, c⟩ l) (h1 : 1 ≤ n) (h2 : n ≤ 1000) :
    Calls Try.prog 116 #[.slice a n c] w fun e w' => ∃ g cap, e = .returned (.slice (some ⟨g, 0, none⟩) n cap) ∧ w.heap.size ≤ g ∧ w'.ownsRow w.heap.size 91 1 (.slice (some ⟨g, 0, none⟩) n cap) n (flatU l) ∧ Cls w w' := by
  obtain ⟨hl, hle, hmax, hh⟩ := hs
  simp only at hl hle hmax hh
  subst hl
  obtain ⟨b, off, rfl, hb, hc⟩ := hh.resolve_left (by omega)
  have q : ∀ (w : World) (a : Option Addr) (n c n' c' : Nat), (binOp .eql 56 (.slice a n c) (.slice none n' c')).run Try.prog w = .ok (.bool a.isNone) w := fun w a n c n' c' => Lib.run_eql_slice_nil w _ _ a n c n' c' Try.underlying56
  obtain ⟨i0, hi, hz0, hz1, hz2⟩ := info_parts infoU
  have LN : Hid ((flatU l).length = l.length * 1) := Lib.hid (by simp [flatU])
  have HC : Hid (∀ W, Below w.heap.size w W → ∀ j u, (flatU l)[j]? = some u → W.cell? ((⟨b, off, none⟩ : Addr).add j) = some u) := Lib.hid fun W hW => cellsU rfl (fun i hi => by rw [hW.cell (p := ⟨b, _, none⟩) hb]; exact hc i hi)
  unfold maxLen at hmax
  clear hh hc
  go_enter Try.func116, Try.ntmps116
  go_wp2_with (at_builtin; refine wpList_append_own _ rfl _ _ 56 rfl w.heap.size 91 i0 (.int .u64 0) 1 8 Try.underlying56 hi hz0 hz1 hz2 rfl (by decide) _ _ _ rfl (World.ownsRow_made w #[] 0 (Nat.le_refl _) (Nat.zero_le _) (by simp)) ⟨b, off, none⟩ l.length c (flatU l) rfl LN.out (HC.out _ ((Below.refl _ _).alloc (Nat.le_refl _) _)) (flatU_one l) (by unfold maxLen; omega) (by omega) (by simp) ?_; intro v2 w2 hown2 hgrow2 _; rw [Nat.zero_add, List.nil_append] at hown2; have bel2 := (((Below.refl w.heap.size w).alloc (Nat.le_refl _) _).grown hgrow2 (by simp) (by intro k hk; exact Nat.le_of_eq (Option.some.inj hk))); clear hgrow2)
  go_ret
  rcases hown2.2 with ⟨_, h0⟩ | ⟨g, cap, cur, rfl, hg, _⟩
  · omega
  · exact ⟨g, cap, rfl, hg, hown2, Cls.of bel2⟩
theorem miB_sub {p q c : Nat} (hq : q < 18446744073709551616) (hc : c ≤ 1) : (if p < q + c then 1 else 0) = 1 - (p + 18446744073709551616 - c - q) / 18446744073709551616 ∨ 18446744073709551616 ≤ p := by
  by_cases hp : p < 18446744073709551616
  · left; split <;> omega
  · right; omega
set_option maxHeartbeats 8000000 in
set_option maxRecDepth 20000 in
theorem lminus_calls (a : Option Addr) (n c : Nat) (a' : Option Addr) (n' c' : Nat) (x y : Nat) (w : World) (h : NatAt w ⟨a, n, c⟩ x) (h' : NatAt w ⟨a', n', c'⟩ y) (hn : n ≤ 1000) (hn' : n' ≤ 1000) (hx : 0 < x) (hxy : y ≤ x) :
    Calls Try.prog 107 #[.slice a n c, .slice a' n' c'] w fun e w' => ∃ s : Sl, e = .returned (.slice s.a s.len s.cap) ∧ NatAt w' s (x - y) ∧ Cls w w' := by
  have HL : Hid (n = (wdigs x).length) := Lib.hid h.1
  have h1 : 1 ≤ n := by rw [HL.out]; exact wdigs_len_pos hx
  have K1 := Lib.hid (lcloneW_calls (wdigs x) a n c w h h1 hn)
  have HN' := Lib.hid h'
  have HV := Lib.hid (miS_val hxy)
  rw [← HL.out] at HV
  have HLt : Hid (∀ k, k ≤ n → (miS (wdigs x) (wdigs y) k).length = n) := Lib.hid fun k hk => by rw [miS_length _ _ _ (by rw [← HL.out]; exact hk), HL.out]
  clear h h' hx hxy
  go_enter Try.func107, Try.ntmps107
  go_wp2_with (go_at_call 116; (with_reducible refine K1.out.mono ?_); rintro e _ ⟨g, cap, rfl, hg, hown, ⟨y1, rfl⟩⟩; have y1s := y1.size; have HO := Lib.hid hown; have hcap : n ≤ cap := ((by obtain ⟨_, h2⟩ := hown; rcases h2 with ⟨h2, _⟩ | ⟨_, _, _, h2, _, _, h3, _⟩ <;> simp at h2; omega)); clear hown)
  go_loopw [6, 12] (fun ca i wr => ∃ k : Nat, k ≤ n ∧ i = .int .i64 k ∧ ca = .int .u64 (wmiB (wdigs x) (wdigs y) k : Nat) ∧ Hid (wr.ownsRow w.heap.size 91 1 (.slice (some ⟨g, 0, none⟩) n cap) n (flatU (miS (wdigs x) (wdigs y) k))) ∧ Hid (Below w.heap.size w wr)) (fun _ i _ => 2000 - (intOf i).toNat)
  case atStart => exact ⟨0, by omega, rfl, rfl, HO, Lib.hid y1.below⟩
  case round =>
    obtain ⟨k, hk, rfl, rfl, hown, hbel⟩ := hrel
    have hg2 := hown.out.lt g rfl
    by_cases hlt : k < n
    · have C2 := Lib.hid (fun (W : World) (hb : Below w.heap.size w W) => word_calls a' n' c' (wdigs y) k W (HN'.out.later hb))
      have hcb := wmiB_le (wdigs x) (wdigs y) k
      have hyb := (wdg_digs y).getD k
      have hxb := (wdg_digs x).getD k
      have A1 : ∀ W, (callFunc 117 #[.int .u64 ((wdigs x).getD k 0 : Nat), .int .u64 ((wdigs y).getD k 0 : Nat), .int .u64 (wmiB (wdigs x) (wdigs y) k : Nat)]).run Try.prog W = .ok (.value (.tuple #[.int .u64 (wmiD (wdigs x) (wdigs y) k : Nat), .int .u64 (wmiB (wdigs x) (wdigs y) (k + 1) : Nat)])) W := fun W => by
        rw [sub64_nat _ _ _ hcb W]
        have e1 : wmiB (wdigs x) (wdigs y) (k + 1) = if (wdigs x).getD k 0 < (wdigs y).getD k 0 + wmiB (wdigs x) (wdigs y) k then 1 else 0 := by
          rcases miB_sub (p := (wdigs x).getD k 0) hyb hcb with h | h
          · rw [h]; rfl
          · omega
        have e2 : wmiD (wdigs x) (wdigs y) k = ((wdigs x).getD k 0 + 18446744073709551616 - (wdigs y).getD k 0 - wmiB (wdigs x) (wdigs y) k) % 18446744073709551616 := by
          unfold wmiD; congr 1; omega
        rw [e1, e2]
      have z0 := hown.out.cellAt k (by omega)
      have e3 : (flatU (miS (wdigs x) (wdigs y) k))[k]? = some (.int .u64 ((wdigs x).getD k 0 : Nat)) := by
        have hkl : k < (miS (wdigs x) (wdigs y) k).length := by rw [HLt.out _ hk]; exact hlt
        have := miS_at (wdigs x) (wdigs y) k (by rw [← HL.out]; exact hlt)
        rw [← this]
        simp [flatU, List.getD, hkl]
      rw [e3] at z0
      have z1 := hown.out.frozenAt k
      have HS : Hid (∀ W, Below wr.heap.size wr W → (W.setCell ⟨g, k, none⟩ (.int .u64 (wmiD (wdigs x) (wdigs y) k : Nat))).ownsRow w.heap.size 91 1 (.slice (some ⟨g, 0, none⟩) n cap) n (flatU (miS (wdigs x) (wdigs y) (k + 1)))) := Lib.hid (fun W hW => by
        have := ((own_later' hown.out hW).stored k (.int .u64 (wmiD (wdigs x) (wdigs y) k : Nat))).1
        have e4 : (flatU (miS (wdigs x) (wdigs y) k)).set k (.int .u64 (wmiD (wdigs x) (wdigs y) k : Nat)) = flatU (miS (wdigs x) (wdigs y) (k + 1)) := by
          rw [← miS_next _ _ _ (by rw [← HL.out]; exact hlt)]
          simp [flatU, List.map_set]
        rwa [e4] at this)
      have hkk : (k : Int) < (n : Int) := by omega
      have hbs := hbel.out.size
      clear HN' hown hcb hyb hxb HV e3 K1
      generalize hc1 : wmiB (wdigs x) (wdigs y) (k + 1) = c1 at *
      have HC1 := Lib.hid hc1
      clear hc1
      generalize wmiB (wdigs x) (wdigs y) k = c0 at *
      generalize wmiD (wdigs x) (wdigs y) k = d0 at *
      generalize (wdigs x).getD k 0 = p at *
      generalize (wdigs y).getD k 0 = q at *
      go_wp2_with fail
      go_region_with (first
          | (go_at_call 60; (with_reducible refine Calls.mono (C2.out _ ?_) ?_); (focus (repeat first | with_reducible exact hbel.out | with_reducible refine Below.drew ?_ | with_reducible refine Ext.on _ ?_ hbs)); rintro e _ ⟨rfl, rfl⟩)
          | (simp only []))
      all_goals
        go_wp2_with fail
        go_roundw
        case rel => exact ⟨k + 1, by omega, by go_num, by rw [HC1.out], Lib.hid (by first | exact (HS.out wr (Below.refl _ _)).drew | exact (HS.out _ (Below.refl _ _).drew) | exact (HS.out _ (Below.refl _ _).drew).drew | exact HS.out _ (Below.refl _ _)), Lib.hid (by first | exact (hbel.out.setCell hg2.1 _).drew | exact (hbel.out.drew).setCell hg2.1 _ | exact ((hbel.out.drew).setCell hg2.1 _).drew | exact hbel.out.setCell hg2.1 _)⟩
        case measure => first | (simp [intOf]; done) | (simp [intOf]; omega)
    · obtain rfl : k = n := by omega
      obtain ⟨⟨a1, n1, c1⟩, hv1, hat, _⟩ := UAt.of_own (l := miS (wdigs x) (wdigs y) k) (by rw [HLt.out _ hk]; exact hown.out)
      simp only [Sl.v, Value.slice.injEq] at hv1
      obtain ⟨rfl, rfl, rfl⟩ := hv1
      have T1 := Lib.hid (trimmed_calls _ _ _ _ wr hat HV.out.2)
      have T2 := Lib.hid (ltrimmed hat HV.out.2)
      rw [HV.out.1] at T1 T2
      clear hat HV hown HLt HN' K1
      go_wp2_with (go_at_call 105; (with_reducible refine T1.out.mono ?_); rintro e _ ⟨rfl, rfl⟩)
      go_ret
      exact ⟨⟨_, _, _⟩, rfl, T2.out, Cls.of hbel.out⟩
end Go.Proofs.Ythbdkhmgopahbaa
set_option linter.unusedVariables false
namespace Go.Proofs.Ythbdkhmgopahbaa
open Go Go.RowKit Go.Deep
set_option maxHeartbeats 4000000 in
theorem lcompare_calls (a : Option Addr) (n c : Nat) (a' : Option Addr) (n' c' : Nat) (x y : Nat) (w : World) (h : NatAt w ⟨a, n, c⟩ x) (h' : NatAt w ⟨a', n', c'⟩ y) :
    Calls Try.prog 58 #[.slice a n c, .slice a' n' c'] w fun e w' => e = .returned (.int .i64 (cmpN x y)) ∧ Cls w w' := by
  have hle : n ≤ c := h.2.1
  have hmax : c ≤ maxLen := h.2.2.1
  have hle' : n' ≤ c' := h'.2.1
  have hmax' : c' ≤ maxLen := h'.2.2.1
  unfold maxLen at hmax hmax'
  have HL : Hid (n = (wdigs x).length) := Lib.hid h.1
  have HL' : Hid (n' = (wdigs y).length) := Lib.hid h'.1
  have H := Lib.hid h.2.2.2
  have H' := Lib.hid h'.2.2.2
  clear h h'
  by_cases hnn : n = n'
  · subst hnn
    go_enter Try.func58, Try.ntmps58
    go_wp2_with fail
    go_loopw [5] (fun i wr => ∃ k : Nat, k ≤ n ∧ i = .int .i64 ((k : Int) - 1) ∧ Hid ((wdigs x).drop k = (wdigs y).drop k) ∧ Cls w wr) (fun i _ => (intOf i + 1).toNat)
    case atStart => exact ⟨n, Nat.le_refl _, rfl, Lib.hid (by rw [List.drop_eq_nil_of_le (by rw [← HL.out]; exact Nat.le_refl _), List.drop_eq_nil_of_le (by rw [← HL'.out]; exact Nat.le_refl _)]), Cls.of (Below.refl _ _)⟩
    case round =>
      obtain ⟨k, hk, rfl, hd, xw, rfl⟩ := hrel
      by_cases h0 : 0 < k
      · obtain ⟨j, rfl⟩ : ∃ j, k = j + 1 := ⟨k - 1, by omega⟩
        obtain ⟨b, off, ea, hb, hcell⟩ := H.out.resolve_left (by show ¬ n = 0; omega)
        obtain ⟨b', off', ea', hb', hcell'⟩ := H'.out.resolve_left (by show ¬ n = 0; omega)
        have ea1 : a = some ⟨b, off, none⟩ := ea
        have ea2 : a' = some ⟨b', off', none⟩ := ea'
        subst ea1 ea2
        clear ea ea'
        have q := hcell j (by show j < n; omega)
        have q' := hcell' j (by show j < n; omega)
        have G1 : Hid ((wdigs x).getD j 0 < (wdigs y).getD j 0 → cmpN x y = -1) := Lib.hid fun hlt => cmpN_lt (by have := wlt_of_digit (wdg_digs x) (by rw [← HL.out, ← HL'.out]) (by rw [← HL.out]; omega) hd.out hlt; rwa [wvl_digs, wvl_digs] at this)
        have G2 : Hid ((wdigs y).getD j 0 < (wdigs x).getD j 0 → cmpN x y = 1) := Lib.hid fun hlt => cmpN_gt (by have := wlt_of_digit (wdg_digs y) (by rw [← HL.out, ← HL'.out]) (by rw [← HL'.out]; omega) hd.out.symm hlt; rwa [wvl_digs, wvl_digs] at this)
        have G3 : Hid ((wdigs x).getD j 0 = (wdigs y).getD j 0 → (wdigs x).drop j = (wdigs y).drop j) := Lib.hid fun he => wdrop_step (by rw [← HL.out]; omega) (by rw [← HL.out, ← HL'.out]) hd.out he
        clear hcell hcell' hd
        generalize (wdigs x).getD j 0 = u at *
        generalize (wdigs y).getD j 0 = v at *
        have e0 : ((j + 1 : Nat) : Int) - 1 = (j : Int) := by omega
        rw [e0]
        clear e0
        have hbx : b < xw.val.heap.size := Nat.lt_of_lt_of_le hb xw.size
        have hbx' : b' < xw.val.heap.size := Nat.lt_of_lt_of_le hb' xw.size
        have G4 : Hid (u ≠ v → cmpI (u : Int) (v : Int) = cmpN x y) := Lib.hid fun hne => by
          rcases Nat.lt_or_gt_of_ne hne with hlt | hlt
          · rw [G1.out hlt]; unfold cmpI; rw [if_pos (by omega)]
          · rw [G2.out hlt]; unfold cmpI; rw [if_neg (by omega), if_pos (by omega)]
        clear G1 G2
        by_cases huv : u = v
        · subst huv
          have GG := Lib.hid (G3.out rfl)
          clear G3 G4
          go_wp2_with fail
          refine wp_region_on (by kernel_rfl) (by kernel_rfl) ?_
          repeat (go_big_quiet_step (fail))
          refine wpQuiet_nil ?_
          rintro _ ⟨z, rfl⟩
          go_wp2_with fail
          go_roundw
          case rel => exact ⟨j, by omega, rfl, GG, z, rfl⟩
          case measure => first | (simp [intOf]; done) | (simp [intOf]; omega)
        · have C1 := Lib.hid (fun W => (cmpU64_calls (u : Int) (v : Int) W).mono fun _ _ h => And.intro h.1 (Cls.same h.2))
          rw [G4.out huv] at C1
          have d1 : ((u : Int) == (v : Int)) = false := by simp; omega
          clear G3 G4 huv
          generalize hr : cmpN x y = r at *
          have HR := Lib.hid hr
          clear hr
          go_wp2_with fail
          refine wp_region_on (by kernel_rfl) (by kernel_rfl) ?_
          repeat (go_big_quiet_step (fail))
          refine wpQuiet_nil ?_
          rintro _ ⟨y, rfl⟩
          have ysz := y.size
          go_wp2_with fail
          refine wp_region_on (by kernel_rfl) (by kernel_rfl) ?_
          repeat (go_big_quiet_step (first | (go_at_call 95; with_reducible exact Cls.call (C1.out _))))
          refine wpQuiet_nil ?_
          rintro _ ⟨z, rfl⟩
          go_wp2_with fail
          go_ret
          exact ⟨ret_int HR.out.symm, z, rfl⟩
      · obtain rfl : k = 0 := by omega
        go_wp2_with fail
        go_ret
        exact ⟨ret_int (wcmpN_digs (by simpa using hd.out)).symm, xw, rfl⟩
  · have b5 : ((n : Int) != (n' : Int)) = true := by simp; omega
    have C0 : Hid (∀ W, Calls Try.prog 94 #[.int .i64 n, .int .i64 n'] W fun e w' => e = .returned (.int .i64 (cmpN x y)) ∧ W = w') := Lib.hid fun W => by
      have e : cmpI (n : Int) (n' : Int) = cmpN x y := by
        by_cases hlt : n < n'
        · rw [wcmpN_len (by rw [← HL.out, ← HL'.out]; exact hlt)]; unfold cmpI; rw [if_pos (by omega)]
        · rw [wcmpN_len' (by rw [← HL.out, ← HL'.out]; omega)]; unfold cmpI; rw [if_neg (by omega), if_pos (by omega)]
      rw [← e]; exact cmpInt_calls _ _ W
    generalize cmpN x y = r at *
    go_enter Try.func58, Try.ntmps58
    go_wp2_with (go_at_call 94; (with_reducible refine (C0.out _).mono ?_); rintro e _ ⟨rfl, rfl⟩)
    go_ret
    exact ⟨rfl, Cls.of (Below.refl _ _)⟩
end Go.Proofs.Ythbdkhmgopahbaa
