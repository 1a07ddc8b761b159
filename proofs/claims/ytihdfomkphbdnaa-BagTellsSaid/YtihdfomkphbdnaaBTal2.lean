/-
  bag.tallies, walked.
-/
import Derived.Test.YtihdfomkphbdnaaBTal
set_option linter.unusedVariables false
namespace Go.Proofs.Ytihdfomkphbdnaa
open Go Go.RowKit
/-- Tallies in a row of one's own. -/
def TalsOwn (w0 w : World) (base : Nat) (v : Value) (T : List Tr) : Prop := w.ownsRow base 37 3 v T.length (flatT T) ∧ (∀ t ∈ T, t.row.Ok w0)
theorem TalsOwn.snoc {w0 w w1 : World} {base : Nat} {v v1 : Value} {T : List Tr} {t : Tr} (h : TalsOwn w0 w base v T) (ht : t.row.Ok w0) (ho : w1.ownsRow base 37 3 v1 (T.length + 1) (flatT T ++ t.cells)) : TalsOwn w0 w1 base v1 (T ++ [t]) := by
  refine ⟨?_, fun s hs => ?_⟩
  · rw [flatT_append, List.length_append]
    simpa [flatT] using ho
  · rcases List.mem_append.1 hs with hs | hs
    · exact h.2 s hs
    · obtain rfl := List.mem_singleton.1 hs
      exact ht
theorem Tr.one (t : Tr) : ∀ u ∈ t.cells, u.oneCell' = true := by
  intro u hu
  simp only [Tr.cells, List.mem_cons, List.not_mem_nil, or_false] at hu
  rcases hu with rfl | rfl | rfl <;> rfl
theorem drop_vss (l : List Rw) (m : Nat) : (vss l).drop m = vss (l.drop m) := by simp [vss]
set_option maxHeartbeats 8000000 in
theorem tallies_calls (a : Option Addr) (n c : Nat) (l : List Rw) (a' : Option Addr) (n' c' : Nat) (l' : List Rw) (w : World) (h : Rws w a n l) (h' : Rws w a' n' l') (hn : n ≤ 10000) (hn' : n' ≤ 10000) :
    Calls Try.prog 28 #[.slice a n c, .slice a' n' c'] w fun e w' => ∃ v T w0, e = .returned v ∧ TalsOwn w0 w' w0.heap.size v T ∧ TalOf (vss l) (vss l') (T.map Tr.tl) ∧ T.length ≤ n + n' ∧ Below w0.heap.size w0 w' ∧ Below w.heap.size w w0 := by
  obtain ⟨i0, hi, hz0, hz1, hz2⟩ := info_parts infoT
  have C1 : Hid (∀ W, Below w.heap.size w W → Calls Try.prog 44 #[.slice a n c] W fun e w' => ∃ a' c' l1, e = .returned (.slice a' n c') ∧ Rws w' a' n l1 ∧ n ≤ c' ∧ c' ≤ maxLen ∧ (vss l1).Perm (vss l) ∧ Asc (vss l1) ∧ ((a' = none ∧ c' = 0) ∨ ∃ b off, a' = some ⟨b, off, none⟩) ∧ Below W.heap.size W w') := Lib.hid fun W hW => ascending_calls a n c l W (h.later hW) hn
  have C2 : Hid (∀ W, Below w.heap.size w W → Calls Try.prog 44 #[.slice a' n' c'] W fun e w' => ∃ a1 c1 l1, e = .returned (.slice a1 n' c1) ∧ Rws w' a1 n' l1 ∧ n' ≤ c1 ∧ c1 ≤ maxLen ∧ (vss l1).Perm (vss l') ∧ Asc (vss l1) ∧ ((a1 = none ∧ c1 = 0) ∨ ∃ b off, a1 = some ⟨b, off, none⟩) ∧ Below W.heap.size W w') := Lib.hid fun W hW => ascending_calls a' n' c' l' W (h'.later hW) hn'
  clear h h'
  have tok1 : True := trivial
  have tok2 : True := trivial
  go_enter Try.func28, Try.ntmps28
  go_wp2_with (first | (go_at_call 44; have _t := tok1; ((with_reducible refine (C1.out _ (Below.refl _ _)).mono ?_); rintro e w1 ⟨a1, c1, l1, rfl, hx⟩; have H1 := Lib.hid hx; clear hx tok1 _t)) | (go_at_call 44; have _t := tok2; ((with_reducible refine (C2.out _ H1.out.2.2.2.2.2.2).mono ?_); rintro e w2 ⟨a2, c2, l2, rfl, hx⟩; have H2 := Lib.hid hx; clear hx tok2 _t)))
  obtain ⟨r1, k1, m1, p1, s1, d1, b1⟩ := H1.out
  obtain ⟨r2, k2, m2, p2, s2, d2, b2⟩ := H2.out
  have HX : Hid (Sx w2 (.slice a1 n c1) n l1) := Lib.hid ⟨a1, c1, rfl, r1.later b2, k1, m1, d1⟩
  have HY : Hid (Sx w2 (.slice a2 n' c2) n' l2) := Lib.hid ⟨a2, c2, rfl, r2, k2, m2, d2⟩
  have HT : Hid (TalIn (vss l) (vss l') (([] : List Tr).map Tr.tl) (vss l1) (vss l2)) := Lib.hid (TalIn.start p1 p2 s1 s2)
  have HB : Hid (Below w.heap.size w w2) := Lib.hid (b1.trans (b2.mono b1.size))
  have ho0 := World.ownsRow_nil w2 w2.heap.size 37 3
  clear H1 H2 C1 C2 r1 k1 m1 p1 s1 d1 b1 r2 k2 m2 p2 s2 d2 b2
  go_loopw [0, 1, 5] (fun s0 s1 s5 wr => ∃ nx ny X Y v T, s0 = s0 ∧ s5 = v ∧ Hid (Sx w2 s0 nx X) ∧ Hid (Sx w2 s1 ny Y) ∧ Hid (TalsOwn w2 wr w2.heap.size v T) ∧ Hid (TalIn (vss l) (vss l') (T.map Tr.tl) (vss X) (vss Y)) ∧ T.length + nx + ny ≤ n + n' ∧ nx ≤ n ∧ ny ≤ n' ∧ Hid (Below w2.heap.size w2 wr)) (fun s0 s1 _ _ => lenOf s0 + lenOf s1)
  case atStart => exact ⟨n, n', l1, l2, _, [], rfl, rfl, HX, HY, Lib.hid ⟨ho0, fun t ht => by cases ht⟩, HT, by simp, Nat.le_refl _, Nat.le_refl _, Lib.hid (Below.refl _ _)⟩
  case round =>
    obtain ⟨nx, ny, X, Y, v, T, _, rfl, hX, hY, hO, hI, hlen, hnx, hny, hB⟩ := hrel
    obtain ⟨ax, cx, rfl, rx, kx, mx, dx⟩ := hX.out
    obtain ⟨ay, cy, rfl, ry, ky, my, dy⟩ := hY.out
    have bw := hB.out.size
    have lx := rx.ln
    have ly := ry.ln
    clear hX hY
    by_cases h0 : nx = 0 ∧ ny = 0
    · obtain ⟨rfl, rfl⟩ := h0
      obtain rfl : X = [] := List.eq_nil_of_length_eq_zero lx
      obtain rfl : Y = [] := List.eq_nil_of_length_eq_zero ly
      clear rx ry dx dy
      go_wp2_with fail
      go_ret
      exact ⟨_, T, w2, rfl, hO.out, TalIn.done hI.out, by omega, hB.out, HB.out⟩
    · have hp : 0 < nx ∨ 0 < ny := by omega
      have CF : Hid (∀ W, Below w2.heap.size w2 W → Calls Try.prog 45 #[.slice ax nx cx, .slice ay ny cy] W fun e w' => e = .returned (fstR X Y).enc ∧ Cls W w') := Lib.hid fun W hW => first_calls _ _ _ _ _ _ _ _ W (rx.later hW) (ry.later hW) hp (by omega) (by omega)
      have hrok : (fstR X Y).Ok w2 := fstR_ok rx ry
      have hp' : 0 < X.length ∨ 0 < Y.length := by omega
      have hle := fstR_le hI.out.ascX hI.out.ascY hp'
      have hstep := hI.out.step (fstR_mem hp') hle.1 hle.2
      have hpos : 0 < lead (vss X) (fstR X Y).vs + lead (vss Y) (fstR X Y).vs := by
        rw [(lead_drop hI.out.ascX hle.1).1, (lead_drop hI.out.ascY hle.2).1]
        rcases fstR_mem hp' with hm | hm
        · have := List.count_pos_iff.2 hm; omega
        · have := List.count_pos_iff.2 hm; omega
      have hmx : lead (vss X) (fstR X Y).vs ≤ nx := by have := lead_le (vss X) (fstR X Y).vs; rw [vss_len] at this; omega
      have hmy : lead (vss Y) (fstR X Y).vs ≤ ny := by have := lead_le (vss Y) (fstR X Y).vs; rw [vss_len] at this; omega
      have CX : Hid (∀ W, Below w2.heap.size w2 W → Calls Try.prog 46 #[.slice ax nx cx, (fstR X Y).enc] W fun e w' => e = .returned (.int .i64 (lead (vss X) (fstR X Y).vs : Nat)) ∧ Cls W w') := Lib.hid fun W hW => leading_calls _ _ _ _ _ W (rx.later hW) (hrok.later hW) (by omega)
      have CY : Hid (∀ W, Below w2.heap.size w2 W → Calls Try.prog 46 #[.slice ay ny cy, (fstR X Y).enc] W fun e w' => e = .returned (.int .i64 (lead (vss Y) (fstR X Y).vs : Nat)) ∧ Cls W w') := Lib.hid fun W hW => leading_calls _ _ _ _ _ W (ry.later hW) (hrok.later hW) (by omega)
      rw [drop_vss, drop_vss] at hstep
      generalize fstR X Y = r at *
      generalize lead (vss X) r.vs = p at *
      generalize lead (vss Y) r.vs = q at *
      have HS : Hid (TalIn (vss l) (vss l') ((T ++ [(⟨r, p, q⟩ : Tr)]).map Tr.tl) (vss (X.drop p)) (vss (Y.drop q))) := Lib.hid (by rw [List.map_append]; exact hstep)
      have HR := Lib.hid hrok
      have HSN : Hid (∀ W w1 v1, TalsOwn w2 W w2.heap.size u5 T → w1.ownsRow w2.heap.size 37 3 v1 (T.length + 1) (flatT T ++ (⟨r, p, q⟩ : Tr).cells) → TalsOwn w2 w1 w2.heap.size v1 (T ++ [(⟨r, p, q⟩ : Tr)])) := Lib.hid fun W w1 v1 h1 h2 => h1.snoc hrok h2
      clear hstep hrok hle hI
      obtain ⟨ra, rl, rc, rv⟩ := r
      simp only [Rw.enc] at CF CX CY
      have RX := Lib.hid rx
      have RY := Lib.hid ry
      clear rx ry lx ly
      have hpx : p ≤ cx := by omega
      have hqy : q ≤ cy := by omega
      unfold maxLen at mx my
      have tok1 : True := trivial
      clear HX HY HT ho0 hp' h0
      have hgx : nx = 0 ∨ (0 : Int) < (nx : Int) := by omega
      rcases hgx with rfl | hgx
      · have hgy : (0 : Int) < (ny : Int) := by omega
        obtain rfl : p = 0 := by omega
        clear hp
        have hpos' : 0 < q := by omega
        clear hpos
        rcases dy with ⟨rfl, rfl⟩ | ⟨by', oy, rfl⟩
        · exfalso; omega
        · rcases dx with ⟨rfl, rfl⟩ | ⟨bx, ox, rfl⟩
          · have ex : X = [] := List.eq_nil_of_length_eq_zero RX.out.ln
            subst ex
            go_wp2_with (first | (go_at_call 45; ((with_reducible refine (CF.out _ hB.out).mono ?_); rintro e _ ⟨rfl, x, rfl⟩; have bx1 : Hid (Below w2.heap.size w2 x.val) := Lib.hid (hB.out.trans (x.below.mono bw)); have sx := x.size)) | (go_at_call 46; ((with_reducible refine (CX.out _ bx1.out).mono ?_); rintro e _ ⟨rfl, y, rfl⟩; have sy := y.size; have by1 : Hid (Below w2.heap.size w2 y.val) := Lib.hid (bx1.out.trans (y.below.mono (by omega))))) | (go_at_call 46; ((with_reducible refine (CY.out _ by1.out).mono ?_); rintro e _ ⟨rfl, z, rfl⟩; have sz := z.size; have bz1 : Hid (Below w2.heap.size w2 z.val) := Lib.hid (by1.out.trans (z.below.mono (by omega))))) | (at_builtin; have _t := tok1; refine wpList_append_own _ rfl _ _ 34 rfl w2.heap.size 37 i0 (.agg #[.slice none 0 0, .int .i64 0, .int .i64 0]) 3 40 Try.underlying34 hi hz0 hz1 hz2 rfl (by decide) _ _ _ rfl (own_later' hO.out.1 (by repeat first | with_reducible exact Below.refl _ _ | with_reducible refine Below.setCell ?_ (by first | omega | (simp; done) | (simp; omega)) _ | with_reducible refine Below.alloc ?_ (by first | omega | (simp; done) | (simp; omega)) _ | with_reducible refine Below.drew ?_ | with_reducible refine Ext.on _ ?_ (by first | omega | (simp; done) | (simp; omega)))) ⟨z.val.heap.size, 0, none⟩ 1 1 (Tr.cells (⟨⟨ra, rl, rc, rv⟩, 0, q⟩ : Tr)) rfl rfl (cells_new' _ _ _) (Tr.one _) (by unfold maxLen; omega) (by omega) (by simp; omega) ?_; intro v1 w3 hown3 hg3 _; have HO3 : Hid (TalsOwn w2 w3 w2.heap.size v1 (T ++ [(⟨⟨ra, rl, rc, rv⟩, 0, q⟩ : Tr)])) := Lib.hid (HSN.out _ _ _ hO.out hown3); have HB3 : Hid (Below w2.heap.size w2 w3) := Lib.hid (Below.grown (bz1.out.alloc (by omega) _) hg3 (by simp; omega) (fun k hk => (hO.out.1.lt k hk).1)); clear hown3 hg3 tok1 _t))
            have s3 := HB3.out.size
            clear CF CX CY
            refine wp_region_ext (by kernel_rfl) (by kernel_rfl) ?_
            repeat (go_big_quiet_step (fail))
            refine wpQuiet_nil ?_
            rintro _ ⟨y4, rfl⟩
            go_wp2_with fail
            go_roundw
            case rel => exact ⟨0, ny - q, List.drop 0 ([] : List Rw), List.drop q Y, v1, T ++ [(⟨⟨ra, rl, rc, rv⟩, 0, q⟩ : Tr)], (by first | rfl | trivial), rfl, Lib.hid (⟨none, 0, rfl, Rws.nil _ _, Nat.le_refl _, Nat.zero_le _, .inl ⟨rfl, rfl⟩⟩), Lib.hid (Sx.rest RY.out ky my hmy), Lib.hid ⟨own_later' HO3.out.1 y4.below, HO3.out.2⟩, HS, by simp; omega, by omega, by omega, Lib.hid (HB3.out.trans (y4.below.mono s3))⟩
            case measure => simp [lenOf]; omega
          · go_wp2_with (first | (go_at_call 45; ((with_reducible refine (CF.out _ hB.out).mono ?_); rintro e _ ⟨rfl, x, rfl⟩; have bx1 : Hid (Below w2.heap.size w2 x.val) := Lib.hid (hB.out.trans (x.below.mono bw)); have sx := x.size)) | (go_at_call 46; ((with_reducible refine (CX.out _ bx1.out).mono ?_); rintro e _ ⟨rfl, y, rfl⟩; have sy := y.size; have by1 : Hid (Below w2.heap.size w2 y.val) := Lib.hid (bx1.out.trans (y.below.mono (by omega))))) | (go_at_call 46; ((with_reducible refine (CY.out _ by1.out).mono ?_); rintro e _ ⟨rfl, z, rfl⟩; have sz := z.size; have bz1 : Hid (Below w2.heap.size w2 z.val) := Lib.hid (by1.out.trans (z.below.mono (by omega))))) | (at_builtin; have _t := tok1; refine wpList_append_own _ rfl _ _ 34 rfl w2.heap.size 37 i0 (.agg #[.slice none 0 0, .int .i64 0, .int .i64 0]) 3 40 Try.underlying34 hi hz0 hz1 hz2 rfl (by decide) _ _ _ rfl (own_later' hO.out.1 (by repeat first | with_reducible exact Below.refl _ _ | with_reducible refine Below.setCell ?_ (by first | omega | (simp; done) | (simp; omega)) _ | with_reducible refine Below.alloc ?_ (by first | omega | (simp; done) | (simp; omega)) _ | with_reducible refine Below.drew ?_ | with_reducible refine Ext.on _ ?_ (by first | omega | (simp; done) | (simp; omega)))) ⟨z.val.heap.size, 0, none⟩ 1 1 (Tr.cells (⟨⟨ra, rl, rc, rv⟩, 0, q⟩ : Tr)) rfl rfl (cells_new' _ _ _) (Tr.one _) (by unfold maxLen; omega) (by omega) (by simp; omega) ?_; intro v1 w3 hown3 hg3 _; have HO3 : Hid (TalsOwn w2 w3 w2.heap.size v1 (T ++ [(⟨⟨ra, rl, rc, rv⟩, 0, q⟩ : Tr)])) := Lib.hid (HSN.out _ _ _ hO.out hown3); have HB3 : Hid (Below w2.heap.size w2 w3) := Lib.hid (Below.grown (bz1.out.alloc (by omega) _) hg3 (by simp; omega) (fun k hk => (hO.out.1.lt k hk).1)); clear hown3 hg3 tok1 _t))
            have s3 := HB3.out.size
            clear CF CX CY
            refine wp_region_ext (by kernel_rfl) (by kernel_rfl) ?_
            repeat (go_big_quiet_step (fail))
            refine wpQuiet_nil ?_
            rintro _ ⟨y4, rfl⟩
            go_wp2_with fail
            go_roundw
            case rel => exact ⟨0, ny - q, List.drop 0 X, List.drop q Y, v1, T ++ [(⟨⟨ra, rl, rc, rv⟩, 0, q⟩ : Tr)], (by first | rfl | trivial), rfl, Lib.hid (Sx.rest0 RX.out kx mx), Lib.hid (Sx.rest RY.out ky my hmy), Lib.hid ⟨own_later' HO3.out.1 y4.below, HO3.out.2⟩, HS, by simp; omega, by omega, by omega, Lib.hid (HB3.out.trans (y4.below.mono s3))⟩
            case measure => simp [lenOf]; omega
      · clear hp
        rcases dx with ⟨rfl, rfl⟩ | ⟨bx, ox, rfl⟩
        · exfalso; omega
        · rcases dy with ⟨rfl, rfl⟩ | ⟨by', oy, rfl⟩
          · obtain rfl : ny = 0 := by omega
            obtain rfl : q = 0 := by omega
            have ey : Y = [] := List.eq_nil_of_length_eq_zero RY.out.ln
            subst ey
            have hpos' : 0 < p := by omega
            clear hpos
            go_wp2_with (first | (go_at_call 45; ((with_reducible refine (CF.out _ hB.out).mono ?_); rintro e _ ⟨rfl, x, rfl⟩; have bx1 : Hid (Below w2.heap.size w2 x.val) := Lib.hid (hB.out.trans (x.below.mono bw)); have sx := x.size)) | (go_at_call 46; ((with_reducible refine (CX.out _ bx1.out).mono ?_); rintro e _ ⟨rfl, y, rfl⟩; have sy := y.size; have by1 : Hid (Below w2.heap.size w2 y.val) := Lib.hid (bx1.out.trans (y.below.mono (by omega))))) | (go_at_call 46; ((with_reducible refine (CY.out _ by1.out).mono ?_); rintro e _ ⟨rfl, z, rfl⟩; have sz := z.size; have bz1 : Hid (Below w2.heap.size w2 z.val) := Lib.hid (by1.out.trans (z.below.mono (by omega))))) | (at_builtin; have _t := tok1; refine wpList_append_own _ rfl _ _ 34 rfl w2.heap.size 37 i0 (.agg #[.slice none 0 0, .int .i64 0, .int .i64 0]) 3 40 Try.underlying34 hi hz0 hz1 hz2 rfl (by decide) _ _ _ rfl (own_later' hO.out.1 (by repeat first | with_reducible exact Below.refl _ _ | with_reducible refine Below.setCell ?_ (by first | omega | (simp; done) | (simp; omega)) _ | with_reducible refine Below.alloc ?_ (by first | omega | (simp; done) | (simp; omega)) _ | with_reducible refine Below.drew ?_ | with_reducible refine Ext.on _ ?_ (by first | omega | (simp; done) | (simp; omega)))) ⟨z.val.heap.size, 0, none⟩ 1 1 (Tr.cells (⟨⟨ra, rl, rc, rv⟩, p, 0⟩ : Tr)) rfl rfl (cells_new' _ _ _) (Tr.one _) (by unfold maxLen; omega) (by omega) (by simp; omega) ?_; intro v1 w3 hown3 hg3 _; have HO3 : Hid (TalsOwn w2 w3 w2.heap.size v1 (T ++ [(⟨⟨ra, rl, rc, rv⟩, p, 0⟩ : Tr)])) := Lib.hid (HSN.out _ _ _ hO.out hown3); have HB3 : Hid (Below w2.heap.size w2 w3) := Lib.hid (Below.grown (bz1.out.alloc (by omega) _) hg3 (by simp; omega) (fun k hk => (hO.out.1.lt k hk).1)); clear hown3 hg3 tok1 _t))
            have s3 := HB3.out.size
            clear CF CX CY
            refine wp_region_ext (by kernel_rfl) (by kernel_rfl) ?_
            repeat (go_big_quiet_step (fail))
            refine wpQuiet_nil ?_
            rintro _ ⟨y4, rfl⟩
            go_wp2_with fail
            go_roundw
            case rel => exact ⟨nx - p, 0, List.drop p X, List.drop 0 ([] : List Rw), v1, T ++ [(⟨⟨ra, rl, rc, rv⟩, p, 0⟩ : Tr)], (by first | rfl | trivial), rfl, Lib.hid (Sx.rest RX.out kx mx hmx), Lib.hid (⟨none, 0, rfl, Rws.nil _ _, Nat.le_refl _, Nat.zero_le _, .inl ⟨rfl, rfl⟩⟩), Lib.hid ⟨own_later' HO3.out.1 y4.below, HO3.out.2⟩, HS, by simp; omega, by omega, by omega, Lib.hid (HB3.out.trans (y4.below.mono s3))⟩
            case measure => simp [lenOf]; omega
          · go_wp2_with (first | (go_at_call 45; ((with_reducible refine (CF.out _ hB.out).mono ?_); rintro e _ ⟨rfl, x, rfl⟩; have bx1 : Hid (Below w2.heap.size w2 x.val) := Lib.hid (hB.out.trans (x.below.mono bw)); have sx := x.size)) | (go_at_call 46; ((with_reducible refine (CX.out _ bx1.out).mono ?_); rintro e _ ⟨rfl, y, rfl⟩; have sy := y.size; have by1 : Hid (Below w2.heap.size w2 y.val) := Lib.hid (bx1.out.trans (y.below.mono (by omega))))) | (go_at_call 46; ((with_reducible refine (CY.out _ by1.out).mono ?_); rintro e _ ⟨rfl, z, rfl⟩; have sz := z.size; have bz1 : Hid (Below w2.heap.size w2 z.val) := Lib.hid (by1.out.trans (z.below.mono (by omega))))) | (at_builtin; have _t := tok1; refine wpList_append_own _ rfl _ _ 34 rfl w2.heap.size 37 i0 (.agg #[.slice none 0 0, .int .i64 0, .int .i64 0]) 3 40 Try.underlying34 hi hz0 hz1 hz2 rfl (by decide) _ _ _ rfl (own_later' hO.out.1 (by repeat first | with_reducible exact Below.refl _ _ | with_reducible refine Below.setCell ?_ (by first | omega | (simp; done) | (simp; omega)) _ | with_reducible refine Below.alloc ?_ (by first | omega | (simp; done) | (simp; omega)) _ | with_reducible refine Below.drew ?_ | with_reducible refine Ext.on _ ?_ (by first | omega | (simp; done) | (simp; omega)))) ⟨z.val.heap.size, 0, none⟩ 1 1 (Tr.cells (⟨⟨ra, rl, rc, rv⟩, p, q⟩ : Tr)) rfl rfl (cells_new' _ _ _) (Tr.one _) (by unfold maxLen; omega) (by omega) (by simp; omega) ?_; intro v1 w3 hown3 hg3 _; have HO3 : Hid (TalsOwn w2 w3 w2.heap.size v1 (T ++ [(⟨⟨ra, rl, rc, rv⟩, p, q⟩ : Tr)])) := Lib.hid (HSN.out _ _ _ hO.out hown3); have HB3 : Hid (Below w2.heap.size w2 w3) := Lib.hid (Below.grown (bz1.out.alloc (by omega) _) hg3 (by simp; omega) (fun k hk => (hO.out.1.lt k hk).1)); clear hown3 hg3 tok1 _t))
            have s3 := HB3.out.size
            clear CF CX CY
            refine wp_region_ext (by kernel_rfl) (by kernel_rfl) ?_
            repeat (go_big_quiet_step (fail))
            refine wpQuiet_nil ?_
            rintro _ ⟨y4, rfl⟩
            go_wp2_with fail
            go_roundw
            case rel => exact ⟨nx - p, ny - q, List.drop p X, List.drop q Y, v1, T ++ [(⟨⟨ra, rl, rc, rv⟩, p, q⟩ : Tr)], (by first | rfl | trivial), rfl, Lib.hid (Sx.rest RX.out kx mx hmx), Lib.hid (Sx.rest RY.out ky my hmy), Lib.hid ⟨own_later' HO3.out.1 y4.below, HO3.out.2⟩, HS, by simp; omega, by omega, by omega, Lib.hid (HB3.out.trans (y4.below.mono s3))⟩
            case measure => simp [lenOf]; omega
end Go.Proofs.Ytihdfomkphbdnaa
