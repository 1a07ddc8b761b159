/-
  The reference's numbers: sums and differences.
-/
import Derived.Test.YtogjollefllajaaFRef1
set_option linter.unusedVariables false
namespace Go.Proofs.Ytogjollefllajaa
open Go Go.RowKit Go.Deep
theorem one_u (n : Int) : ∀ u ∈ [Value.int .u64 n], u.oneCell' = true := by
  intro u hu; simp at hu; subst hu; rfl
theorem getD_end {l : List Nat} {n k : Nat} (h : n = l.length) (hk : ¬ k < n) : l.getD k 0 = 0 := by simp [List.getD, List.getElem?_eq_none (show l.length ≤ k by omega)]
theorem u64_id {n : Nat} (h : n < 18446744073709551616) : IntKind.u64.wrap (n : Int) = (n : Int) := by rw [IntKind.wrap_u64]; omega
set_option maxHeartbeats 4000000 in
theorem plus_calls (a : Option Addr) (n c : Nat) (a' : Option Addr) (n' c' : Nat) (x y : Nat) (w : World) (h : NumAt w ⟨a, n, c⟩ x) (h' : NumAt w ⟨a', n', c'⟩ y) (hn : n ≤ 1000) (hn' : n' ≤ 1000) :
    Calls Try.prog 59 #[.slice a n c, .slice a' n' c'] w fun e w' => ∃ s : Sl, e = .returned (.slice s.a s.len s.cap) ∧ NumAt w' s (x + y) ∧ (∀ b off, s.a = some ⟨b, off, none⟩ → w.heap.size ≤ b) ∧ Cls w w' := by
  have hle : n ≤ c := h.2.1
  have hmax : c ≤ maxLen := h.2.2.1
  have hle' : n' ≤ c' := h'.2.1
  have hmax' : c' ≤ maxLen := h'.2.2.1
  unfold maxLen at hmax hmax'
  have HL : Hid (n = (digs x).length) := Lib.hid h.1
  have HL' : Hid (n' = (digs y).length) := Lib.hid h'.1
  have H := Lib.hid h.2.2.2
  have H' := Lib.hid h'.2.2.2
  clear h h'
  obtain ⟨i0, hi, hz0, hz1, hz2⟩ := info_parts infoU
  go_enter Try.func59, Try.ntmps59
  go_wp2_with fail
  go_loopw [5, 6, 7] (fun v s i wr => ∃ k : Nat, k ≤ 1000 ∧ (k ≤ n ∨ k ≤ n') ∧ i = .int .i64 k ∧ s = .int .u64 (plC (digs x) (digs y) k) ∧ Hid (wr.ownsRow w.heap.size 82 1 v k (flatU (plL (digs x) (digs y) k))) ∧ Hid (Below w.heap.size w wr)) (fun _ _ i _ => 1000 - (intOf i).toNat)
  case atStart => exact ⟨0, by omega, .inl (by omega), rfl, rfl, Lib.hid (World.ownsRow_nil _ _ _ 1), Lib.hid (Below.refl _ _)⟩
  case round =>
    obtain ⟨k, hk, hkn, rfl, rfl, hown, hbel⟩ := hrel
    have hcb := plC_le (dg_digs x) (dg_digs y) k
    have hxb := (dg_digs x).getD k
    have hyb := (dg_digs y).getD k
    have ES : Hid (plC (digs x) (digs y) (k + 1) = (plC (digs x) (digs y) k + (digs x).getD k 0 + (digs y).getD k 0) / 1000000000) := Lib.hid rfl
    have EL : Hid (flatU (plL (digs x) (digs y) (k + 1)) = flatU (plL (digs x) (digs y) k) ++ [.int .u64 (((plC (digs x) (digs y) k : Nat) + ((digs x).getD k 0 : Nat) + ((digs y).getD k 0 : Nat) : Int) % 1000000000)]) := Lib.hid (by rw [plL_succ, flatU_append]; simp [flatU, plD])
    have X0 : Hid (¬ k < n → (digs x).getD k 0 = 0) := Lib.hid (getD_end HL.out)
    have Y0 : Hid (¬ k < n' → (digs y).getD k 0 = 0) := Lib.hid (getD_end HL'.out)
    have CX : Hid (k < n → ∃ b off, a = some ⟨b, off, none⟩ ∧ b < w.heap.size ∧ w.cell? ⟨b, off + k, none⟩ = some (.int .u64 ((digs x).getD k 0))) := Lib.hid fun hlt => by
      obtain ⟨b, off, ea, hb, hc⟩ := H.out.resolve_left (by show ¬ n = 0; omega)
      exact ⟨b, off, ea, hb, hc k hlt⟩
    have CY : Hid (k < n' → ∃ b off, a' = some ⟨b, off, none⟩ ∧ b < w.heap.size ∧ w.cell? ⟨b, off + k, none⟩ = some (.int .u64 ((digs y).getD k 0))) := Lib.hid fun hlt => by
      obtain ⟨b, off, ea, hb, hc⟩ := H'.out.resolve_left (by show ¬ n' = 0; omega)
      exact ⟨b, off, ea, hb, hc k hlt⟩
    obtain ⟨hcell, hfroz⟩ : (∀ b o, b < w.heap.size → wr.cell? ⟨b, o, none⟩ = w.cell? ⟨b, o, none⟩) ∧ True := ⟨fun b o h => hbel.out.cell (p := ⟨b, o, none⟩) h, trivial⟩
    have hsz := hbel.out.size
    by_cases hlt : k < n <;> by_cases hlt' : k < n'
    · obtain ⟨b, off, ea, hb, q⟩ := CX.out hlt
      subst ea
      have r := (hcell b (off + k) hb).trans q
      have hb1 : b < wr.heap.size := by omega
      obtain ⟨b', off', ea', hb', q'⟩ := CY.out hlt'
      subst ea'
      have r' := (hcell b' (off' + k) hb').trans q'
      have hb1' : b' < wr.heap.size := by omega
      clear CX CY X0 Y0 hcell H H' q q'
      generalize (digs x).getD k 0 = p at *
      generalize (digs y).getD k 0 = p' at *
      generalize plC (digs x) (digs y) k = ca at *
      go_wp2_with (first | (at_builtin; refine wpList_append_own_at _ rfl _ _ 60 rfl w.heap.size 82 i0 (.int .u64 0) 1 8 Try.underlying60 hi hz0 hz1 hz2 rfl (by decide) _ k _ rfl (own_later' hown.out (by repeat first | with_reducible exact Below.refl _ _ | with_reducible refine Below.setCell ?_ (by first | omega | (simp; done) | (simp; omega)) _ | with_reducible refine Below.alloc ?_ (by first | omega | (simp; done) | (simp; omega)) _ | with_reducible refine Below.drew ?_ | with_reducible refine Ext.on _ ?_ (by first | omega | (simp; done) | (simp; omega)))) ⟨wr.heap.size, 0, none⟩ 1 1 [.int .u64 _] rfl rfl (cells_new' _ _ _) (one_u _) (by unfold maxLen; omega) (by omega) (by first | (simp; done) | (simp; omega)) ?_; intro v1 w1 hown1 hg1 _ _; have HB1 : Hid (Below w.heap.size w w1) := Lib.hid (Below.grown (w := wr.alloc _) (hbel.out.alloc (by omega) _) hg1 (by first | (simp; done) | (simp; omega)) (fun k hk => (hown.out.lt k hk).1)); have HO1 := Lib.hid hown1; clear hown1 hg1))
      go_roundw
      case rel => exact ⟨k + 1, by omega, by omega, by go_num, by rw [ES.out]; first | rfl | (congr 1; omega), Lib.hid (by rw [EL.out]; exact HO1.out), HB1⟩
      case measure => first | (simp [intOf]; done) | (simp [intOf]; omega)
    · obtain ⟨b, off, ea, hb, q⟩ := CX.out hlt
      subst ea
      have r := (hcell b (off + k) hb).trans q
      have hb1 : b < wr.heap.size := by omega
      rw [Y0.out hlt'] at EL ES hyb
      rw [Int.natCast_zero, Int.add_zero] at EL
      rw [Nat.add_zero] at ES
      clear CX CY X0 Y0 hcell H H' q
      generalize (digs x).getD k 0 = p at *
      generalize plC (digs x) (digs y) k = ca at *
      go_wp2_with (first | (at_builtin; refine wpList_append_own_at _ rfl _ _ 60 rfl w.heap.size 82 i0 (.int .u64 0) 1 8 Try.underlying60 hi hz0 hz1 hz2 rfl (by decide) _ k _ rfl (own_later' hown.out (by repeat first | with_reducible exact Below.refl _ _ | with_reducible refine Below.setCell ?_ (by first | omega | (simp; done) | (simp; omega)) _ | with_reducible refine Below.alloc ?_ (by first | omega | (simp; done) | (simp; omega)) _ | with_reducible refine Below.drew ?_ | with_reducible refine Ext.on _ ?_ (by first | omega | (simp; done) | (simp; omega)))) ⟨wr.heap.size, 0, none⟩ 1 1 [.int .u64 _] rfl rfl (cells_new' _ _ _) (one_u _) (by unfold maxLen; omega) (by omega) (by first | (simp; done) | (simp; omega)) ?_; intro v1 w1 hown1 hg1 _ _; have HB1 : Hid (Below w.heap.size w w1) := Lib.hid (Below.grown (w := wr.alloc _) (hbel.out.alloc (by omega) _) hg1 (by first | (simp; done) | (simp; omega)) (fun k hk => (hown.out.lt k hk).1)); have HO1 := Lib.hid hown1; clear hown1 hg1))
      go_roundw
      case rel => exact ⟨k + 1, by omega, by omega, by go_num, by rw [ES.out]; first | rfl | (congr 1; omega), Lib.hid (by rw [EL.out]; exact HO1.out), HB1⟩
      case measure => first | (simp [intOf]; done) | (simp [intOf]; omega)
    · obtain ⟨b', off', ea', hb', q'⟩ := CY.out hlt'
      subst ea'
      have r' := (hcell b' (off' + k) hb').trans q'
      have hb1' : b' < wr.heap.size := by omega
      rw [X0.out hlt] at EL ES hxb
      rw [Int.natCast_zero, Int.add_zero] at EL
      rw [Nat.add_zero] at ES
      clear CX CY X0 Y0 hcell H H' q'
      generalize (digs y).getD k 0 = p' at *
      generalize plC (digs x) (digs y) k = ca at *
      go_wp2_with (first | (at_builtin; refine wpList_append_own_at _ rfl _ _ 60 rfl w.heap.size 82 i0 (.int .u64 0) 1 8 Try.underlying60 hi hz0 hz1 hz2 rfl (by decide) _ k _ rfl (own_later' hown.out (by repeat first | with_reducible exact Below.refl _ _ | with_reducible refine Below.setCell ?_ (by first | omega | (simp; done) | (simp; omega)) _ | with_reducible refine Below.alloc ?_ (by first | omega | (simp; done) | (simp; omega)) _ | with_reducible refine Below.drew ?_ | with_reducible refine Ext.on _ ?_ (by first | omega | (simp; done) | (simp; omega)))) ⟨wr.heap.size, 0, none⟩ 1 1 [.int .u64 _] rfl rfl (cells_new' _ _ _) (one_u _) (by unfold maxLen; omega) (by omega) (by first | (simp; done) | (simp; omega)) ?_; intro v1 w1 hown1 hg1 _ _; have HB1 : Hid (Below w.heap.size w w1) := Lib.hid (Below.grown (w := wr.alloc _) (hbel.out.alloc (by omega) _) hg1 (by first | (simp; done) | (simp; omega)) (fun k hk => (hown.out.lt k hk).1)); have HO1 := Lib.hid hown1; clear hown1 hg1))
      go_roundw
      case rel => exact ⟨k + 1, by omega, by omega, by go_num, by rw [ES.out]; first | rfl | (congr 1; omega), Lib.hid (by rw [EL.out]; exact HO1.out), HB1⟩
      case measure => first | (simp [intOf]; done) | (simp [intOf]; omega)
    · have HP := Lib.hid (plus_end (a := x) (b := y) (n := k) (by rw [← HL.out]; omega) (by rw [← HL'.out]; omega))
      have HD : Hid (Dg (plL (digs x) (digs y) k ++ [plC (digs x) (digs y) k])) := Lib.hid (by
        intro d hd
        rcases List.mem_append.1 hd with hd | hd
        · exact plL_dg _ _ _ d hd
        · simp at hd; omega)
      have HLN : Hid ((plL (digs x) (digs y) k ++ [plC (digs x) (digs y) k]).length = k + 1) := Lib.hid (by simp [plL_length])
      have EF : Hid (flatU (plL (digs x) (digs y) k ++ [plC (digs x) (digs y) k]) = flatU (plL (digs x) (digs y) k) ++ [.int .u64 ((plC (digs x) (digs y) k : Nat) : Int)]) := Lib.hid (by rw [flatU_append]; rfl)
      clear CX CY X0 Y0 hcell H H' ES EL hxb hyb
      generalize plL (digs x) (digs y) k ++ [plC (digs x) (digs y) k] = L at *
      generalize plC (digs x) (digs y) k = ca at *
      generalize flatU (plL (digs x) (digs y) k) = F at *
      have tok1 : True := trivial
      go_wp2_with (first | (at_builtin; refine wpList_append_own_at _ rfl _ _ 60 rfl w.heap.size 82 i0 (.int .u64 0) 1 8 Try.underlying60 hi hz0 hz1 hz2 rfl (by decide) _ k _ rfl (own_later' hown.out (by repeat first | with_reducible exact Below.refl _ _ | with_reducible refine Below.setCell ?_ (by first | omega | (simp; done) | (simp; omega)) _ | with_reducible refine Below.alloc ?_ (by first | omega | (simp; done) | (simp; omega)) _ | with_reducible refine Below.drew ?_ | with_reducible refine Ext.on _ ?_ (by first | omega | (simp; done) | (simp; omega)))) ⟨wr.heap.size, 0, none⟩ 1 1 [.int .u64 _] rfl rfl (cells_new' _ _ _) (one_u _) (by unfold maxLen; omega) (by omega) (by first | (simp; done) | (simp; omega)) ?_; intro v1 w1 hown1 hg1 _ _; have HB1 : Hid (Below w.heap.size w w1) := Lib.hid (Below.grown (w := wr.alloc _) (hbel.out.alloc (by omega) _) hg1 (by first | (simp; done) | (simp; omega)) (fun k hk => (hown.out.lt k hk).1)); have HO1 := Lib.hid hown1; clear hown1 hg1; obtain ⟨⟨a1, n1, c1⟩, hv1, hat, hfr⟩ := UAt.of_own (l := L) (by rw [EF.out, HLN.out]; exact HO1.out); simp only [Sl.v] at hv1; subst hv1; have T1 := Lib.hid (trim_calls a1 n1 c1 L w1 hat HD.out); have T2 := Lib.hid (trimmed hat HD.out); rw [HP.out] at T1 T2; have HFR := Lib.hid hfr; clear hat hfr) | (go_at_call 84; (with_reducible refine T1.out.mono ?_); rintro e _ ⟨rfl, rfl⟩))
      go_ret
      exact ⟨⟨_, _, _⟩, rfl, T2.out, HFR.out, Cls.of HB1.out⟩
end Go.Proofs.Ytogjollefllajaa
