/-
  The reference's times and one.
-/
import Derived.Test.YtihdfomkphbdnaaRGrp
set_option linter.unusedVariables false
namespace Go.Proofs.Ytihdfomkphbdnaa
open Go Go.RowKit
theorem one_calls (b : Bool) (w : World) : Calls Try.prog 41 #[.bool b] w fun e w' => e = .returned (.int .i64 (if b = true then 1 else 0)) ∧ w' = w := by
  cases b
  · go_enter Try.func41, Try.ntmps41
    go_wp2
    go_ret
    exact ⟨rfl, rfl⟩
  · go_enter Try.func41, Try.ntmps41
    go_wp2
    go_ret
    exact ⟨rfl, rfl⟩
set_option maxHeartbeats 4000000 in
theorem times_calls (v : Value) (R : List Rw) (ra : Option Addr) (rl rc : Nat) (rv : List Vl) (N : Int) (k : Nat) (wb w : World) (hR : RowsOwn w wb.heap.size v R) (hB : Below wb.heap.size wb w) (hr : Rw.Ok wb ⟨ra, rl, rc, rv⟩) (hN : N = (k : Int) ∨ (N < 0 ∧ k = 0)) (hlen : R.length + k ≤ 20000) :
    Calls Try.prog 39 #[v, .slice ra rl rc, .int .i64 N] w fun e w' => ∃ v' R', e = .returned v' ∧ RowsOwn w' wb.heap.size v' R' ∧ vss R' = vss R ++ List.replicate k rv ∧ Below wb.heap.size wb w' := by
  obtain ⟨i0, hi, hz0, hz1, hz2⟩ := info_parts infoR
  have HR := Lib.hid hR
  have HB := Lib.hid hB
  have HOK := Lib.hid hr
  clear hR hB hr
  go_enter Try.func39, Try.ntmps39
  go_wp2_with fail
  go_loopw [0, 7] (fun s0 s7 wr => ∃ i R', i ≤ k ∧ s7 = .int .i64 ((i : Nat) : Int) ∧ Hid (RowsOwn wr wb.heap.size s0 R') ∧ Hid (vss R' = vss R ++ List.replicate i rv) ∧ Hid (Below wb.heap.size wb wr)) (fun _ s7 _ => k - (intOf s7).toNat)
  case atStart => exact ⟨0, R, Nat.zero_le _, rfl, HR, Lib.hid (by simp), HB⟩
  case round =>
    obtain ⟨i, R', hi', rfl, hR', hE', hB'⟩ := hrel
    have sB := hB'.out.size
    by_cases h2 : i < k
    · have hNk : N = (k : Int) := by omega
      subst hNk
      have hiz : (i : Int) < (k : Int) := by omega
      have hlen' : R'.length + 1 ≤ 20000 := by
        have e := congrArg List.length hE'.out
        rw [vss_len, List.length_append, List.length_replicate, vss_len] at e
        omega
      have CC : Hid (Calls Try.prog 37 #[.slice ra rl rc] wr fun e w' => ∃ r' : Rw, e = .returned r'.enc ∧ r'.vs = rv ∧ r'.len = rl ∧ r'.Ok w' ∧ (∀ x, r'.a = some x → wr.heap.size ≤ x.block) ∧ Below wr.heap.size wr w') := Lib.hid (copied_calls ⟨ra, rl, rc, rv⟩ wr (HOK.out.later hB'.out))
      have tok1 : True := trivial
      go_wp2_with (first | (go_at_call 37; ((with_reducible refine CC.out.mono ?_); rintro e w3 ⟨⟨pa, pl, pc, pv⟩, he, hvs, hl3, hx3⟩; have he2 : e = .returned (.slice pa pl pc) := he; clear he; subst he2; have HVS := Lib.hid hvs; clear hvs hl3; have HX3 := Lib.hid hx3; have s3 := hx3.2.2.size; clear hx3)) | (at_builtin; have _t := tok1; refine wpList_append_own_at _ rfl _ _ 22 rfl wb.heap.size 24 i0 (.slice none 0 0) 1 24 Try.underlying22 hi hz0 hz1 hz2 rfl (by decide) _ _ _ rfl (own_later' hR'.out.1 (HX3.out.2.2.alloc s3 _)) ⟨w3.heap.size, 0, none⟩ 1 1 [.slice pa pl pc] rfl rfl (cells_new' _ _ _) (flatR_one [(⟨pa, pl, pc, pv⟩ : Rw)]) (by unfold maxLen; omega) (by omega) (by simp; omega) ?_; intro v1 w4 hown4 hg4 _ hat4; have HR4 : Hid (RowsOwn w4 wb.heap.size v1 (R' ++ [(⟨pa, pl, pc, pv⟩ : Rw)])) := Lib.hid (hR'.out.snoc (r' := ⟨pa, pl, pc, pv⟩) (HX3.out.2.2.alloc s3 _) (HX3.out.1.later ((Below.refl _ _).alloc (Nat.le_refl _) _)) HX3.out.2.1 hown4 hg4 hat4); have HB4 : Hid (Below wb.heap.size wb w4) := Lib.hid (Below.grown ((hB'.out.trans (HX3.out.2.2.mono sB)).alloc (by omega) _) hg4 (by simp; omega) (fun k hk => (hR'.out.1.lt k hk).1)); clear hown4 hg4 hat4 tok1 _t))
      go_roundw
      case rel => exact ⟨i + 1, R' ++ [(⟨pa, pl, pc, pv⟩ : Rw)], by omega, by go_num, HR4, Lib.hid (by rw [replicate_snoc, ← List.append_assoc, ← hE'.out, ← HVS.out]; simp [vss]), HB4⟩
      case measure => simp [intOf]; omega
    · obtain rfl : k = i := by omega
      have hiz : ¬ ((k : Int) < N) := by omega
      go_wp2_with fail
      go_ret
      exact ⟨_, rfl, R', hR'.out, hE'.out, hB'.out⟩
end Go.Proofs.Ytihdfomkphbdnaa
