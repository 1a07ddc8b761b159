/-
  The program's natural numbers: products by a word.
-/
import Derived.Test.YtogjollefllajaaLNat2
set_option linter.unusedVariables false
namespace Go.Proofs.Ytogjollefllajaa
open Go Go.RowKit Go.Deep
theorem tm_parts (p u c : Nat) : (c + p * u % 18446744073709551616 + 0) % 18446744073709551616 = (p * u + c) % 18446744073709551616 ∧ p * u / 18446744073709551616 + (c + p * u % 18446744073709551616 + 0) / 18446744073709551616 = (p * u + c) / 18446744073709551616 := by
  generalize p * u = m
  omega
set_option maxHeartbeats 8000000 in
set_option maxRecDepth 20000 in
theorem ltimes_calls (a : Option Addr) (n c : Nat) (x u : Nat) (w : World) (h : NatAt w ⟨a, n, c⟩ x) (hn : n ≤ 1000) (hu : u < 18446744073709551616) :
    Calls Try.prog 82 #[.slice a n c, .int .u64 u] w fun e w' => ∃ s : Sl, e = .returned (.slice s.a s.len s.cap) ∧ NatAt w' s (x * u) ∧ Cls w w' := by
  by_cases h1 : u = 1
  · subst h1
    have HN := Lib.hid h
    clear h
    go_enter Try.func82, Try.ntmps82
    go_wp2_with fail
    go_ret
    exact ⟨⟨a, n, c⟩, rfl, by rw [Nat.mul_one]; exact HN.out, Cls.of (Below.refl _ _)⟩
  · have b1 : ((u : Int) == 1) = false := by simp; omega
    have hle : n ≤ c := h.2.1
    have hmax : c ≤ maxLen := h.2.2.1
    unfold maxLen at hmax
    have HL : Hid (n = (wdigs x).length) := Lib.hid h.1
    have H := Lib.hid h.2.2.2
    have HV := Lib.hid (tmS_val (wdg_digs x) hu)
    rw [wvl_digs, ← HL.out] at HV
    have HLt : Hid (∀ k, k ≤ n → (tmS (wdigs x) u n k).length = n + 1) := Lib.hid fun k hk => tmS_length _ _ _ _ hk
    have hmk : ∀ W, _ := fun W => make_u64 n (by omega) W
    clear h h1
    go_enter Try.func82, Try.ntmps82
    go_wp2_with fail
    go_loopw [20] (fun i wr => ∃ k : Nat, k ≤ n ∧ i = .int .i64 k ∧ Hid (Blk wr w.heap.size (tmS (wdigs x) u n k)) ∧ Hid (Below w.heap.size w wr)) (fun i _ => 2000 - (intOf i).toNat)
    case atStart => exact ⟨0, by omega, rfl, Lib.hid (by rw [tmS_zero]; exact heap_alloc_new w _), Lib.hid ((Below.refl _ _).alloc (Nat.le_refl _) _)⟩
    case round =>
      obtain ⟨k, hk, rfl, hblk, hbel⟩ := hrel
      have hg := hblk.out.lt
      by_cases hlt : k < n
      · obtain ⟨b, off, ea, hb, hcell⟩ := H.out.resolve_left (by show ¬ n = 0; omega)
        have ea1 : a = some ⟨b, off, none⟩ := ea
        subst ea1
        clear ea
        have q := (hbel.out.cell (p := ⟨b, off + k, none⟩) hb).trans (hcell k hlt)
        have hbs := hbel.out.size
        have hb2 : b < wr.heap.size := by omega
        have hp := (wdg_digs x).getD k
        have hc0 := tmC_lt (wdg_digs x) hu k
        have hc1 := tmC_lt (wdg_digs x) hu (k + 1)
        obtain ⟨m1, m2⟩ := tm_parts ((wdigs x).getD k 0) u (tmC (wdigs x) u k)
        have C1 : Hid (Calls Try.prog 71 #[.int .u64 ((wdigs x).getD k 0 : Nat), .int .u64 u] wr fun e w' => e = .returned (.tuple #[.int .u64 (((wdigs x).getD k 0 * u / 18446744073709551616 : Nat) : Int), .int .u64 (((wdigs x).getD k 0 * u % 18446744073709551616 : Nat) : Int)]) ∧ wr = w') := Lib.hid ((Mul64_calls _ _ hp hu wr).mono fun _ _ ⟨e1, e2⟩ => ⟨e1, e2.symm⟩)
        have A1 : Hid (∀ W, (callFunc 93 #[.int .u64 (tmC (wdigs x) u k : Nat), .int .u64 ((wdigs x).getD k 0 * u % 18446744073709551616 : Nat), .int .u64 0]).run Try.prog W = .ok (.value (.tuple #[.int .u64 (tmD (wdigs x) u k : Nat), .int .u64 ((tmC (wdigs x) u k + (wdigs x).getD k 0 * u % 18446744073709551616 + 0) / 18446744073709551616 : Nat)])) W) := Lib.hid fun W => by
          have := add64_nat (tmC (wdigs x) u k) ((wdigs x).getD k 0 * u % 18446744073709551616) 0 (by omega) W
          rw [m1] at this
          exact this
        have E2 : IntKind.u64.wrap ((((wdigs x).getD k 0 * u / 18446744073709551616 : Nat) : Int) + (((tmC (wdigs x) u k + (wdigs x).getD k 0 * u % 18446744073709551616 + 0) / 18446744073709551616 : Nat) : Int)) = (tmC (wdigs x) u (k + 1) : Nat) := by
          have e : tmC (wdigs x) u (k + 1) = (wdigs x).getD k 0 * u / 18446744073709551616 + (tmC (wdigs x) u k + (wdigs x).getD k 0 * u % 18446744073709551616 + 0) / 18446744073709551616 := by rw [m2]; rfl
          rw [e] at hc1 ⊢
          rw [IntKind.wrap_u64]
          omega
        have z0 := hblk.out.cell (i := k) (by rw [HLt.out _ hk]; omega)
        rw [tmS_at] at z0
        have z1 := hblk.out.frozen k
        have y0 := hblk.out.cell (i := k + 1) (by rw [HLt.out _ hk]; omega)
        have y1 := hblk.out.frozen (k + 1)
        have HS : Hid (Blk ((wr.setCell ⟨w.heap.size, k, none⟩ (.int .u64 (tmD (wdigs x) u k : Nat))).setCell ⟨w.heap.size, k + 1, none⟩ (.int .u64 (tmC (wdigs x) u (k + 1) : Nat))) w.heap.size (tmS (wdigs x) u n (k + 1))) := Lib.hid (by
          have := (hblk.out.set k (tmD (wdigs x) u k)).set (k + 1) (tmC (wdigs x) u (k + 1))
          rwa [tmS_next _ _ _ _ hlt] at this)
        have hkk : (k : Int) < (n : Int) + 1 := by omega
        have hkk2 : (k : Int) + 1 < (n : Int) + 1 := by omega
        have e1 : ((k : Int) + 1).toNat = k + 1 := by omega
        clear H hcell hblk HV HLt m1 m2 hp hc0 hc1
        generalize (tmS (wdigs x) u n k).getD (k + 1) 0 = z at *
        generalize (tmC (wdigs x) u k + (wdigs x).getD k 0 * u % 18446744073709551616 + 0) / 18446744073709551616 = ca at *
        generalize (wdigs x).getD k 0 * u / 18446744073709551616 = hi at *
        generalize (wdigs x).getD k 0 * u % 18446744073709551616 = lo at *
        generalize tmC (wdigs x) u (k + 1) = c1 at *
        generalize tmC (wdigs x) u k = c0 at *
        generalize tmD (wdigs x) u k = d0 at *
        generalize (wdigs x).getD k 0 = p at *
        go_wp2_with (first | (go_at_call 71; (with_reducible refine C1.out.mono ?_); rintro e _ ⟨rfl, rfl⟩) | (simp only [A1.out]))
        go_roundw
        case rel => exact ⟨k + 1, by omega, by go_num, HS, Lib.hid ((hbel.out.setCell (by simp) _).setCell (by simp) _)⟩
        case measure => first | (simp [intOf]; done) | (simp [intOf]; omega)
      · obtain rfl : k = n := by omega
        have U := hblk.out.uat (by rw [HLt.out _ hk]; unfold maxLen; omega)
        rw [HLt.out _ hk] at U
        have T1 := Lib.hid (trimmed_calls _ _ _ _ wr U HV.out.2)
        have T2 := Lib.hid (ltrimmed U HV.out.2)
        rw [HV.out.1] at T1 T2
        clear U HV hblk H HLt
        go_wp2_with (go_at_call 90; (with_reducible refine T1.out.mono ?_); rintro e _ ⟨rfl, rfl⟩)
        go_ret
        exact ⟨⟨_, _, _⟩, rfl, T2.out, Cls.of hbel.out⟩
end Go.Proofs.Ytogjollefllajaa
