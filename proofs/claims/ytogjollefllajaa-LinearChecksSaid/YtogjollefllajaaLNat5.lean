/-
  The program's natural numbers: differences.
-/
import Derived.Test.YtogjollefllajaaLNat4
import Derived.Laws.OwnMore
import Derived.Lib.SliceRun
import Derived.Deep.RegionHeld3
import Derived.Deep.CutBlock
import Derived.Deep.DeepCutAuto
set_option linter.unusedVariables false
namespace Go.Proofs.Ytogjollefllajaa
open Go Go.RowKit Go.Deep
theorem cellsU {W : World} {b off : Nat} {l : List Nat} {n : Nat} (hl : n = l.length) (hc : ∀ i, i < n → W.cell? ⟨b, off + i, none⟩ = some (.int .u64 (l.getD i 0))) : ∀ j u, (flatU l)[j]? = some u → W.cell? ((⟨b, off, none⟩ : Addr).add j) = some u := by
  intro j u hj
  have hjl : j < l.length := by have h := (List.getElem?_eq_some_iff.1 hj).1; simpa [flatU] using h
  rw [add_none, hc j (by omega), ← hj]
  simp [flatU, List.getD, hjl]
set_option maxHeartbeats 4000000 in
set_option maxRecDepth 100000 in
theorem lcloneW_calls (l : List Nat) (a : Option Addr) (n c : Nat) (w : World) (hs : UAt w ⟨a, n, c⟩ l) (h1 : 1 ≤ n) (h2 : n ≤ 1000) :
    Calls Try.prog 96 #[.slice a n c] w fun e w' => ∃ g cap, e = .returned (.slice (some ⟨g, 0, none⟩) n cap) ∧ w.heap.size ≤ g ∧ w'.ownsRow w.heap.size 82 1 (.slice (some ⟨g, 0, none⟩) n cap) n (flatU l) ∧ Cls w w' := by
  obtain ⟨hl, hle, hmax, hh⟩ := hs
  simp only at hl hle hmax hh
  subst hl
  obtain ⟨b, off, rfl, hb, hc⟩ := hh.resolve_left (by omega)
  have q : ∀ (w : World) (a : Option Addr) (n c n' c' : Nat), (binOp .eql 51 (.slice a n c) (.slice none n' c')).run Try.prog w = .ok (.bool a.isNone) w := fun w a n c n' c' => Lib.run_eql_slice_nil w _ _ a n c n' c' Try.underlying51
  obtain ⟨i0, hi, hz0, hz1, hz2⟩ := info_parts infoU
  have LN : Hid ((flatU l).length = l.length * 1) := Lib.hid (by simp [flatU])
  have HC : Hid (∀ W, Below w.heap.size w W → ∀ j u, (flatU l)[j]? = some u → W.cell? ((⟨b, off, none⟩ : Addr).add j) = some u) := Lib.hid fun W hW => cellsU rfl (fun i hi => by rw [hW.cell (p := ⟨b, _, none⟩) hb]; exact hc i hi)
  unfold maxLen at hmax
  clear hh hc
  go_enter Try.func96, Try.ntmps96
  go_wp2_with (at_builtin; refine wpList_append_own _ rfl _ _ 51 rfl w.heap.size 82 i0 (.int .u64 0) 1 8 Try.underlying51 hi hz0 hz1 hz2 rfl (by decide) _ _ _ rfl (World.ownsRow_made w #[] 0 (Nat.le_refl _) (Nat.zero_le _) (by simp)) ⟨b, off, none⟩ l.length c (flatU l) rfl LN.out (HC.out _ ((Below.refl _ _).alloc (Nat.le_refl _) _)) (flatU_one l) (by unfold maxLen; omega) (by omega) (by simp) ?_; intro v2 w2 hown2 hgrow2 _; rw [Nat.zero_add, List.nil_append] at hown2; have bel2 := (((Below.refl w.heap.size w).alloc (Nat.le_refl _) _).grown hgrow2 (by simp) (by intro k hk; exact Nat.le_of_eq (Option.some.inj hk))); clear hgrow2)
  go_ret
  rcases hown2.2 with ⟨_, h0⟩ | ⟨g, cap, cur, rfl, hg, _⟩
  · omega
  · exact ⟨g, cap, rfl, hg, hown2, Cls.of bel2⟩
theorem miB_sub {p q c : Nat} (hq : q < 18446744073709551616) (hc : c ≤ 1) : (if p < q + c then 1 else 0) = 1 - (p + 18446744073709551616 - c - q) / 18446744073709551616 ∨ 18446744073709551616 ≤ p := by
  by_cases hp : p < 18446744073709551616
  · left; split <;> omega
  · right; omega
set_option maxHeartbeats 8000000 in
set_option maxRecDepth 20000 in
theorem lminus_calls (a : Option Addr) (n c : Nat) (a' : Option Addr) (n' c' : Nat) (x y : Nat) (w : World) (h : NatAt w ⟨a, n, c⟩ x) (h' : NatAt w ⟨a', n', c'⟩ y) (hn : n ≤ 1000) (hn' : n' ≤ 1000) (hx : 0 < x) (hxy : y ≤ x) :
    Calls Try.prog 92 #[.slice a n c, .slice a' n' c'] w fun e w' => ∃ s : Sl, e = .returned (.slice s.a s.len s.cap) ∧ NatAt w' s (x - y) ∧ Cls w w' := by
  have HL : Hid (n = (wdigs x).length) := Lib.hid h.1
  have h1 : 1 ≤ n := by rw [HL.out]; exact wdigs_len_pos hx
  have K1 := Lib.hid (lcloneW_calls (wdigs x) a n c w h h1 hn)
  have HN' := Lib.hid h'
  have HV := Lib.hid (miS_val hxy)
  rw [← HL.out] at HV
  have HLt : Hid (∀ k, k ≤ n → (miS (wdigs x) (wdigs y) k).length = n) := Lib.hid fun k hk => by rw [miS_length _ _ _ (by rw [← HL.out]; exact hk), HL.out]
  clear h h' hx hxy
  go_enter Try.func92, Try.ntmps92
  go_wp2_with (go_at_call 96; (with_reducible refine K1.out.mono ?_); rintro e _ ⟨g, cap, rfl, hg, hown, ⟨y1, rfl⟩⟩; have y1s := y1.size; have HO := Lib.hid hown; have hcap : n ≤ cap := ((by obtain ⟨_, h2⟩ := hown; rcases h2 with ⟨h2, _⟩ | ⟨_, _, _, h2, _, _, h3, _⟩ <;> simp at h2; omega)); clear hown)
  go_loopw [6, 12] (fun ca i wr => ∃ k : Nat, k ≤ n ∧ i = .int .i64 k ∧ ca = .int .u64 (wmiB (wdigs x) (wdigs y) k : Nat) ∧ Hid (wr.ownsRow w.heap.size 82 1 (.slice (some ⟨g, 0, none⟩) n cap) n (flatU (miS (wdigs x) (wdigs y) k))) ∧ Hid (Below w.heap.size w wr)) (fun _ i _ => 2000 - (intOf i).toNat)
  case atStart => exact ⟨0, by omega, rfl, rfl, HO, Lib.hid y1.below⟩
  case round =>
    obtain ⟨k, hk, rfl, rfl, hown, hbel⟩ := hrel
    have hg2 := hown.out.lt g rfl
    by_cases hlt : k < n
    · have C2 := Lib.hid (fun (W : World) (hb : Below w.heap.size w W) => word_calls a' n' c' (wdigs y) k W (HN'.out.later hb))
      have hcb := wmiB_le (wdigs x) (wdigs y) k
      have hyb := (wdg_digs y).getD k
      have hxb := (wdg_digs x).getD k
      have A1 : ∀ W, (callFunc 97 #[.int .u64 ((wdigs x).getD k 0 : Nat), .int .u64 ((wdigs y).getD k 0 : Nat), .int .u64 (wmiB (wdigs x) (wdigs y) k : Nat)]).run Try.prog W = .ok (.value (.tuple #[.int .u64 (wmiD (wdigs x) (wdigs y) k : Nat), .int .u64 (wmiB (wdigs x) (wdigs y) (k + 1) : Nat)])) W := fun W => by
        rw [sub64_nat _ _ _ hcb W]
        have e1 : wmiB (wdigs x) (wdigs y) (k + 1) = if (wdigs x).getD k 0 < (wdigs y).getD k 0 + wmiB (wdigs x) (wdigs y) k then 1 else 0 := by
          rcases miB_sub (p := (wdigs x).getD k 0) hyb hcb with h | h
          · rw [h]; rfl
          · omega
        have e2 : wmiD (wdigs x) (wdigs y) k = ((wdigs x).getD k 0 + 18446744073709551616 - (wdigs y).getD k 0 - wmiB (wdigs x) (wdigs y) k) % 18446744073709551616 := by
          unfold wmiD; congr 1; omega
        rw [e1, e2]
      have z0 := hown.out.cellAt k (by omega)
      have e3 : (flatU (miS (wdigs x) (wdigs y) k))[k]? = some (.int .u64 ((wdigs x).getD k 0 : Nat)) := by
        have hkl : k < (miS (wdigs x) (wdigs y) k).length := by rw [HLt.out _ hk]; exact hlt
        have := miS_at (wdigs x) (wdigs y) k (by rw [← HL.out]; exact hlt)
        rw [← this]
        simp [flatU, List.getD, hkl]
      rw [e3] at z0
      have z1 := hown.out.frozenAt k
      have HS : Hid (∀ W, Below wr.heap.size wr W → (W.setCell ⟨g, k, none⟩ (.int .u64 (wmiD (wdigs x) (wdigs y) k : Nat))).ownsRow w.heap.size 82 1 (.slice (some ⟨g, 0, none⟩) n cap) n (flatU (miS (wdigs x) (wdigs y) (k + 1)))) := Lib.hid (fun W hW => by
        have := ((own_later' hown.out hW).stored k (.int .u64 (wmiD (wdigs x) (wdigs y) k : Nat))).1
        have e4 : (flatU (miS (wdigs x) (wdigs y) k)).set k (.int .u64 (wmiD (wdigs x) (wdigs y) k : Nat)) = flatU (miS (wdigs x) (wdigs y) (k + 1)) := by
          rw [← miS_next _ _ _ (by rw [← HL.out]; exact hlt)]
          simp [flatU, List.map_set]
        rwa [e4] at this)
      have hkk : (k : Int) < (n : Int) := by omega
      have hbs := hbel.out.size
      clear HN' hown hcb hyb hxb HV e3 K1
      generalize hc1 : wmiB (wdigs x) (wdigs y) (k + 1) = c1 at *
      have HC1 := Lib.hid hc1
      clear hc1
      generalize wmiB (wdigs x) (wdigs y) k = c0 at *
      generalize wmiD (wdigs x) (wdigs y) k = d0 at *
      generalize (wdigs x).getD k 0 = p at *
      generalize (wdigs y).getD k 0 = q at *
      go_wp2_with fail
      go_region_with (first
          | (go_at_call 62; (with_reducible refine Calls.mono (C2.out _ ?_) ?_); (focus (repeat first | with_reducible exact hbel.out | with_reducible refine Below.drew ?_ | with_reducible refine Ext.on _ ?_ hbs)); rintro e _ ⟨rfl, rfl⟩)
          | (simp only []))
      all_goals
        go_wp2_with fail
        go_roundw
        case rel => exact ⟨k + 1, by omega, by go_num, by rw [HC1.out], Lib.hid (by first | exact (HS.out wr (Below.refl _ _)).drew | exact (HS.out _ (Below.refl _ _).drew) | exact (HS.out _ (Below.refl _ _).drew).drew | exact HS.out _ (Below.refl _ _)), Lib.hid (by first | exact (hbel.out.setCell hg2.1 _).drew | exact (hbel.out.drew).setCell hg2.1 _ | exact ((hbel.out.drew).setCell hg2.1 _).drew | exact hbel.out.setCell hg2.1 _)⟩
        case measure => first | (simp [intOf]; done) | (simp [intOf]; omega)
    · obtain rfl : k = n := by omega
      obtain ⟨⟨a1, n1, c1⟩, hv1, hat, _⟩ := UAt.of_own (l := miS (wdigs x) (wdigs y) k) (by rw [HLt.out _ hk]; exact hown.out)
      simp only [Sl.v, Value.slice.injEq] at hv1
      obtain ⟨rfl, rfl, rfl⟩ := hv1
      have T1 := Lib.hid (trimmed_calls _ _ _ _ wr hat HV.out.2)
      have T2 := Lib.hid (ltrimmed hat HV.out.2)
      rw [HV.out.1] at T1 T2
      clear hat HV hown HLt HN' K1
      go_wp2_with (go_at_call 90; (with_reducible refine T1.out.mono ?_); rintro e _ ⟨rfl, rfl⟩)
      go_ret
      exact ⟨⟨_, _, _⟩, rfl, T2.out, Cls.of hbel.out⟩
end Go.Proofs.Ytogjollefllajaa
