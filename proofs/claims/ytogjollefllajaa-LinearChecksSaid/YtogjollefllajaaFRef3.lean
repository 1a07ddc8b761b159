/-
  The reference's numbers: differences.
-/
import Derived.Test.YtogjollefllajaaFRef2
set_option linter.unusedVariables false
namespace Go.Proofs.Ytogjollefllajaa
open Go Go.RowKit Go.Deep
set_option maxHeartbeats 4000000 in
theorem minus_calls (a : Option Addr) (n c : Nat) (a' : Option Addr) (n' c' : Nat) (x y : Nat) (w : World) (h : NumAt w ⟨a, n, c⟩ x) (h' : NumAt w ⟨a', n', c'⟩ y) (hn : n ≤ 1000) (hxy : y ≤ x) :
    Calls Try.prog 60 #[.slice a n c, .slice a' n' c'] w fun e w' => ∃ s : Sl, e = .returned (.slice s.a s.len s.cap) ∧ NumAt w' s (x - y) ∧ Cls w w' := by
  have hle : n ≤ c := h.2.1
  have hmax : c ≤ maxLen := h.2.2.1
  have hle' : n' ≤ c' := h'.2.1
  have hmax' : c' ≤ maxLen := h'.2.2.1
  unfold maxLen at hmax hmax'
  have HL : Hid (n = (digs x).length) := Lib.hid h.1
  have HL' : Hid (n' = (digs y).length) := Lib.hid h'.1
  have H := Lib.hid h.2.2.2
  have H' := Lib.hid h'.2.2.2
  have HXY := Lib.hid hxy
  have hn' : n' ≤ n := by
    rw [HL.out, HL'.out]
    rcases Nat.lt_or_ge (digs x).length (digs y).length with h0 | h0
    · have := lt_of_len_lt h0; omega
    · exact h0
  clear h h' hxy
  obtain ⟨i0, hi, hz0, hz1, hz2⟩ := info_parts infoU
  go_enter Try.func60, Try.ntmps60
  go_wp2_with fail
  go_loopw [5, 6, 7] (fun v s i wr => ∃ k : Nat, k ≤ n ∧ i = .int .i64 k ∧ s = .int .u64 (miB (digs x) (digs y) k) ∧ Hid (wr.ownsRow w.heap.size 82 1 v k (flatU (miL (digs x) (digs y) k))) ∧ Hid (Below w.heap.size w wr)) (fun _ _ i _ => 1000 - (intOf i).toNat)
  case atStart => exact ⟨0, by omega, rfl, rfl, Lib.hid (World.ownsRow_nil _ _ _ 1), Lib.hid (Below.refl _ _)⟩
  case round =>
    obtain ⟨k, hk, rfl, rfl, hown, hbel⟩ := hrel
    have hcb := miB_le (digs x) (digs y) k
    have hxb := (dg_digs x).getD k
    have hyb := (dg_digs y).getD k
    have ES : Hid (((miB (digs x) (digs y) (k + 1) : Nat) : Int) = 1 - ((((digs x).getD k 0 : Nat) : Int) + 1000000000 - (miB (digs x) (digs y) k : Nat) - ((digs y).getD k 0 : Nat)) / 1000000000) := Lib.hid (by simp only [miB]; omega)
    have EL : Hid (flatU (miL (digs x) (digs y) (k + 1)) = flatU (miL (digs x) (digs y) k) ++ [.int .u64 (((((digs x).getD k 0 : Nat) : Int) + 1000000000 - (miB (digs x) (digs y) k : Nat) - ((digs y).getD k 0 : Nat)) % 1000000000)]) := Lib.hid (by
      rw [miL_succ, flatU_append]
      have : ((miD (digs x) (digs y) k : Nat) : Int) = ((((digs x).getD k 0 : Nat) : Int) + 1000000000 - (miB (digs x) (digs y) k : Nat) - ((digs y).getD k 0 : Nat)) % 1000000000 := by simp only [miD]; omega
      simp only [flatU, List.map_cons, List.map_nil, this])
    have Y0 : Hid (¬ k < n' → (digs y).getD k 0 = 0) := Lib.hid (getD_end HL'.out)
    have CX : Hid (k < n → ∃ b off, a = some ⟨b, off, none⟩ ∧ b < w.heap.size ∧ w.cell? ⟨b, off + k, none⟩ = some (.int .u64 ((digs x).getD k 0))) := Lib.hid fun hlt => by
      obtain ⟨b, off, ea, hb, hc⟩ := H.out.resolve_left (by show ¬ n = 0; omega)
      exact ⟨b, off, ea, hb, hc k hlt⟩
    have CY : Hid (k < n' → ∃ b off, a' = some ⟨b, off, none⟩ ∧ b < w.heap.size ∧ w.cell? ⟨b, off + k, none⟩ = some (.int .u64 ((digs y).getD k 0))) := Lib.hid fun hlt => by
      obtain ⟨b, off, ea, hb, hc⟩ := H'.out.resolve_left (by show ¬ n' = 0; omega)
      exact ⟨b, off, ea, hb, hc k hlt⟩
    have hcell : ∀ b o, b < w.heap.size → wr.cell? ⟨b, o, none⟩ = w.cell? ⟨b, o, none⟩ := fun b o h => hbel.out.cell (p := ⟨b, o, none⟩) h
    have hsz := hbel.out.size
    by_cases hlt : k < n
    · obtain ⟨b, off, ea, hb, q⟩ := CX.out hlt
      subst ea
      have r := (hcell b (off + k) hb).trans q
      have hb1 : b < wr.heap.size := by omega
      clear q CX H
      by_cases hlt' : k < n'
      · obtain ⟨b', off', ea', hb', q'⟩ := CY.out hlt'
        subst ea'
        have r' := (hcell b' (off' + k) hb').trans q'
        have hb1' : b' < wr.heap.size := by omega
        clear q' CY H' hcell Y0
        generalize (digs x).getD k 0 = p at *
        generalize (digs y).getD k 0 = p' at *
        generalize miB (digs x) (digs y) k = ca at *
        go_wp2_with (at_builtin; refine wpList_append_own_at _ rfl _ _ 60 rfl w.heap.size 82 i0 (.int .u64 0) 1 8 Try.underlying60 hi hz0 hz1 hz2 rfl (by decide) _ k _ rfl (own_later' hown.out (by repeat first | with_reducible exact Below.refl _ _ | with_reducible refine Below.setCell ?_ (by first | omega | (simp; done) | (simp; omega)) _ | with_reducible refine Below.alloc ?_ (by first | omega | (simp; done) | (simp; omega)) _ | with_reducible refine Below.drew ?_ | with_reducible refine Ext.on _ ?_ (by first | omega | (simp; done) | (simp; omega)))) ⟨wr.heap.size, 0, none⟩ 1 1 [.int .u64 _] rfl rfl (cells_new' _ _ _) (one_u _) (by unfold maxLen; omega) (by omega) (by first | (simp; done) | (simp; omega)) ?_; intro v1 w1 hown1 hg1 _ _; have HB1 : Hid (Below w.heap.size w w1) := Lib.hid (Below.grown (w := wr.alloc _) (hbel.out.alloc (by omega) _) hg1 (by first | (simp; done) | (simp; omega)) (fun k hk => (hown.out.lt k hk).1)); have HO1 := Lib.hid hown1; clear hown1 hg1)
        go_roundw
        case rel => exact ⟨k + 1, by omega, by go_num, by rw [ES.out], Lib.hid (by rw [EL.out]; exact HO1.out), HB1⟩
        case measure => first | (simp [intOf]; done) | (simp [intOf]; omega)
      · rw [Y0.out hlt', Int.natCast_zero, Int.sub_zero] at EL ES
        clear CY H' hcell Y0 hyb
        generalize (digs x).getD k 0 = p at *
        generalize miB (digs x) (digs y) k = ca at *
        go_wp2_with (at_builtin; refine wpList_append_own_at _ rfl _ _ 60 rfl w.heap.size 82 i0 (.int .u64 0) 1 8 Try.underlying60 hi hz0 hz1 hz2 rfl (by decide) _ k _ rfl (own_later' hown.out (by repeat first | with_reducible exact Below.refl _ _ | with_reducible refine Below.setCell ?_ (by first | omega | (simp; done) | (simp; omega)) _ | with_reducible refine Below.alloc ?_ (by first | omega | (simp; done) | (simp; omega)) _ | with_reducible refine Below.drew ?_ | with_reducible refine Ext.on _ ?_ (by first | omega | (simp; done) | (simp; omega)))) ⟨wr.heap.size, 0, none⟩ 1 1 [.int .u64 _] rfl rfl (cells_new' _ _ _) (one_u _) (by unfold maxLen; omega) (by omega) (by first | (simp; done) | (simp; omega)) ?_; intro v1 w1 hown1 hg1 _ _; have HB1 : Hid (Below w.heap.size w w1) := Lib.hid (Below.grown (w := wr.alloc _) (hbel.out.alloc (by omega) _) hg1 (by first | (simp; done) | (simp; omega)) (fun k hk => (hown.out.lt k hk).1)); have HO1 := Lib.hid hown1; clear hown1 hg1)
        go_roundw
        case rel => exact ⟨k + 1, by omega, by go_num, by rw [ES.out], Lib.hid (by rw [EL.out]; exact HO1.out), HB1⟩
        case measure => first | (simp [intOf]; done) | (simp [intOf]; omega)
    · obtain rfl : k = n := by omega
      have HP := Lib.hid (minus_end HXY.out HL.out.symm)
      have HD := Lib.hid (miL_dg (digs x) (digs y) k)
      have HLN : Hid ((miL (digs x) (digs y) k).length = k) := Lib.hid (miL_length _ _ _)
      clear CX CY Y0 hcell H H' ES EL hxb hyb
      generalize miL (digs x) (digs y) k = L at *
      generalize miB (digs x) (digs y) k = ca at *
      obtain ⟨⟨a1, n1, c1⟩, hv1, hat, _⟩ := UAt.of_own (l := L) (by rw [HLN.out]; exact hown.out)
      simp only [Sl.v] at hv1
      subst hv1
      have T1 := Lib.hid (trim_calls a1 n1 c1 L wr hat HD.out)
      have T2 := Lib.hid (trimmed hat HD.out)
      rw [HP.out] at T1 T2
      clear hat
      go_wp2_with (go_at_call 84; (with_reducible refine T1.out.mono ?_); rintro e _ ⟨rfl, rfl⟩)
      go_ret
      exact ⟨⟨_, _, _⟩, rfl, T2.out, Cls.of hbel.out⟩
end Go.Proofs.Ytogjollefllajaa
