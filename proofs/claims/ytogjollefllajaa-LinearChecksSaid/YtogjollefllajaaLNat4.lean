/-
  The program's natural numbers: quotients by a word, and common divisors.
-/
import Derived.Test.YtogjollefllajaaLNat3
set_option linter.unusedVariables false
namespace Go.Proofs.Ytogjollefllajaa
open Go Go.RowKit Go.Deep
theorem make_u64n (M : Nat) (hN : M ≤ 100000) (W : World) : Sem.run Try.prog (Instr.makeSlice 50 (.int .i64 (M : Int)) (.int .i64 (M : Int))) W = .ok (.slice (some ⟨W.heap.size, 0, none⟩) M M) (W.alloc (.cells (flatU (List.replicate M 0)).toArray 82)) := by
  obtain ⟨i0, hi, hz0, hz1, hz2⟩ := info_parts infoU
  have := run_make (P := Try.prog) W 50 82 i0 _ Try.underlying50 hi hz0 .i64 .i64 (M : Int) (M : Int) (by omega) (by omega) (by rw [hz2]; omega) (by omega)
  rw [hz1, show (M : Int).toNat = M by omega, zerosU] at this
  exact this
set_option maxHeartbeats 8000000 in
set_option maxRecDepth 20000 in
theorem lover_calls (a : Option Addr) (n c : Nat) (x u : Nat) (w : World) (h : NatAt w ⟨a, n, c⟩ x) (hn : n ≤ 1000) (hu0 : 0 < u) (hu : u < 18446744073709551616) :
    Calls Try.prog 78 #[.slice a n c, .int .u64 u] w fun e w' => ∃ s : Sl, e = .returned (.tuple #[.slice s.a s.len s.cap, .int .u64 ((x % u : Nat) : Int)]) ∧ NatAt w' s (x / u) ∧ Cls w w' := by
  by_cases h1 : u = 1
  · subst h1
    have HN := Lib.hid h
    clear h
    rw [Nat.mod_one]
    go_enter Try.func78, Try.ntmps78
    go_wp2_with fail
    go_ret2
    exact ⟨⟨a, n, c⟩, rfl, by rw [Nat.div_one]; exact HN.out, Cls.of (Below.refl _ _)⟩
  · have b1 : ((u : Int) == 1) = false := by simp; omega
    have hle : n ≤ c := h.2.1
    have hmax : c ≤ maxLen := h.2.2.1
    unfold maxLen at hmax
    have HL : Hid (n = (wdigs x).length) := Lib.hid h.1
    have H := Lib.hid h.2.2.2
    have HV := Lib.hid (ovS_val (wdg_digs x) hu0)
    rw [wvl_digs] at HV
    have HLt : Hid (∀ k, (ovS (wdigs x) u k).length = n) := Lib.hid fun k => by rw [ovS_length, HL.out]
    have hmk : ∀ W, _ := fun W => make_u64n n (by omega) W
    have HM : Hid (wvl ((wdigs x).drop 0) % u = x % u) := Lib.hid (by rw [List.drop_zero, wvl_digs])
    clear h h1
    go_enter Try.func78, Try.ntmps78
    go_wp2_with fail
    go_loopw [7, 8] (fun r i wr => ∃ k : Nat, k ≤ n ∧ i = .int .i64 ((k : Int) - 1) ∧ r = .int .u64 (wvl ((wdigs x).drop k) % u : Nat) ∧ Hid (Blk wr w.heap.size (ovS (wdigs x) u k)) ∧ Hid (Below w.heap.size w wr)) (fun _ i _ => (intOf i + 1).toNat)
    case atStart => exact ⟨n, Nat.le_refl _, rfl, by rw [List.drop_eq_nil_of_le (by rw [← HL.out]; exact Nat.le_refl _)]; simp [wvl], Lib.hid (by have := ovS_start (wdigs x) u; rw [← HL.out] at this; rw [this]; exact heap_alloc_new w _), Lib.hid ((Below.refl _ _).alloc (Nat.le_refl _) _)⟩
    case round =>
      obtain ⟨k, hk, rfl, rfl, hblk, hbel⟩ := hrel
      have hg := hblk.out.lt
      by_cases h0 : 0 < k
      · obtain ⟨j, rfl⟩ : ∃ j, k = j + 1 := ⟨k - 1, by omega⟩
        obtain ⟨b, off, ea, hb, hcell⟩ := H.out.resolve_left (by show ¬ n = 0; omega)
        have ea1 : a = some ⟨b, off, none⟩ := ea
        subst ea1
        clear ea
        have q := (hbel.out.cell (p := ⟨b, off + j, none⟩) hb).trans (hcell j (by show j < n; omega))
        have hbs := hbel.out.size
        have hb2 : b < wr.heap.size := by omega
        have hp := (wdg_digs x).getD j
        have hr := Nat.mod_lt (wvl ((wdigs x).drop (j + 1))) hu0
        have hq := ovD_lt (wdg_digs x) hu0 j
        have hst := (ov_step (wdigs x) hu0 j).2
        have C1 : Hid (Calls Try.prog 89 #[.int .u64 (wvl ((wdigs x).drop (j + 1)) % u : Nat), .int .u64 ((wdigs x).getD j 0 : Nat), .int .u64 u] wr fun e w' => e = .returned (.tuple #[.int .u64 ((ovD (wdigs x) u j : Nat) : Int), .int .u64 ((wvl ((wdigs x).drop j) % u : Nat) : Int)]) ∧ Cls wr w') := Lib.hid (by
          rw [hst]; exact Div64_calls _ _ u wr hr hu hp)
        have z0 : ∀ y : Ext wr, y.val.cell? ⟨w.heap.size, j, none⟩ = some (.int .u64 ((ovS (wdigs x) u (j + 1)).getD j 0 : Nat)) := fun y => (hblk.out.later y.below).cell (by rw [HLt.out]; omega)
        have z1 : ∀ y : Ext wr, y.val.frozen? ⟨w.heap.size, j, none⟩ = false := fun y => (hblk.out.later y.below).frozen j
        have HS : Hid (∀ y : Ext wr, Blk (y.val.setCell ⟨w.heap.size, j, none⟩ (.int .u64 (ovD (wdigs x) u j : Nat))) w.heap.size (ovS (wdigs x) u j)) := Lib.hid (fun y => by
          have := (hblk.out.later y.below).set j (ovD (wdigs x) u j)
          rwa [ovS_next _ _ _ (by rw [← HL.out]; omega)] at this)
        have e0 : ((j + 1 : Nat) : Int) - 1 = (j : Int) := by omega
        rw [e0]
        clear e0 H hcell hblk HV HLt hst hr hp hq
        generalize (ovS (wdigs x) u (j + 1)).getD j 0 = z at *
        generalize hr1 : wvl ((wdigs x).drop j) % u = r1 at *
        have HR1 := Lib.hid hr1
        clear hr1
        generalize wvl ((wdigs x).drop (j + 1)) % u = r0 at *
        generalize ovD (wdigs x) u j = d0 at *
        generalize (wdigs x).getD j 0 = p at *
        go_wp2_with (go_at_call 89; (with_reducible refine C1.out.mono ?_); rintro e _ ⟨rfl, ⟨y, rfl⟩⟩; have ys := y.size; have hgy : w.heap.size < y.val.heap.size := (by omega); have Z0 := z0 y; have Z1 := z1 y)
        go_roundw
        case rel => exact ⟨j, by omega, rfl, by rw [HR1.out], Lib.hid (HS.out y), Lib.hid ((y.on hbel.out hbs).setCell (by simp) _)⟩
        case measure => first | (simp [intOf]; done) | (simp [intOf]; omega)
      · obtain rfl : k = 0 := by omega
        have U := hblk.out.uat (by rw [HLt.out]; unfold maxLen; omega)
        rw [HLt.out] at U
        have T1 := Lib.hid (trimmed_calls _ _ _ _ wr U HV.out.2)
        have T2 := Lib.hid (ltrimmed U HV.out.2)
        rw [HV.out.1] at T1 T2
        clear U HV hblk H HLt
        rw [HM.out]
        go_wp2_with (go_at_call 90; (with_reducible refine T1.out.mono ?_); rintro e _ ⟨rfl, rfl⟩)
        go_ret2
        exact ⟨⟨_, _, _⟩, rfl, T2.out, Cls.of hbel.out⟩
set_option maxHeartbeats 2000000 in
set_option maxRecDepth 20000 in
theorem lshared_calls (a : Option Addr) (n c : Nat) (x u : Nat) (w : World) (h : NatAt w ⟨a, n, c⟩ x) (hn : n ≤ 1000) (hu0 : 0 < u) (hu : u < 18446744073709551616) :
    Calls Try.prog 77 #[.slice a n c, .int .u64 u] w fun e w' => e = .returned (.int .u64 ((Nat.gcd x u : Nat) : Int)) ∧ Cls w w' := by
  have C1 := Lib.hid (lover_calls a n c x u w h hn hu0 hu)
  have C2 := Lib.hid (fun W => ldivisor_calls u (x % u) W hu (Nat.lt_trans (Nat.mod_lt _ hu0) hu))
  have e : Nat.gcd u (x % u) = Nat.gcd x u := by rw [Nat.gcd_comm u, ← Nat.gcd_rec, Nat.gcd_comm]
  rw [e] at C2
  clear e h hn hu0 hu
  generalize Nat.gcd x u = g at *
  generalize x % u = r at *
  generalize x / u = q at *
  go_enter Try.func77, Try.ntmps77
  go_wp2_with (first | (go_at_call 78; (with_reducible refine C1.out.mono ?_); rintro e _ ⟨s, rfl, hs, ⟨y, rfl⟩⟩; have ys := y.size) | (go_at_call 75; (with_reducible refine (C2.out _).mono ?_); rintro e _ ⟨rfl, ⟨y2, rfl⟩⟩))
  go_ret
  exact ⟨rfl, Cls.of (y2.on y.below ys)⟩
end Go.Proofs.Ytogjollefllajaa
