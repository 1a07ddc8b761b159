/-
  The reference's Canonical: two sorted halves, merged.
-/
import Derived.Test.YtihdfomkphbdnaaRCan
set_option linter.unusedVariables false
namespace Go.Proofs.Ytihdfomkphbdnaa
open Go Go.RowKit
theorem flatR_snoc2 (l : List Rw) (r : Rw) : flatR (l ++ [r]) = flatR l ++ [r.enc] := by simp [flatR]
/-- Merging, on the way. -/
structure Mg (A B : List Row) (i k : Nat) (Z : List Row) : Prop where
  asc : Asc Z
  perm : Z.Perm (A.take i ++ B.take k)
  le : ∀ x ∈ Z, ∀ y, y ∈ A.drop i ∨ y ∈ B.drop k → cmpL x y ≤ 0
theorem Mg.start (A B : List Row) : Mg A B 0 0 [] := ⟨List.Pairwise.nil, List.Perm.refl _, fun x hx => by cases hx⟩
theorem Mg.len {A B Z : List Row} {i k : Nat} (h : Mg A B i k Z) (hi : i ≤ A.length) (hk : k ≤ B.length) : Z.length = i + k := by
  have := h.perm.length_eq
  rw [List.length_append, List.length_take, List.length_take] at this
  omega
theorem drop_at {A : List Row} {i : Nat} (hi : i < A.length) : A.drop i = A.getD i [] :: A.drop (i + 1) := by
  rw [List.drop_eq_getElem_cons hi]; simp [List.getD, hi]
theorem take_at {A : List Row} {i : Nat} (hi : i < A.length) : A.take (i + 1) = A.take i ++ [A.getD i []] := by
  rw [List.take_succ_eq_append_getElem hi]; simp [List.getD, hi]
theorem asc_drop_le {A : List Row} (hA : Asc A) {i : Nat} (hi : i < A.length) : ∀ y ∈ A.drop i, cmpL (A.getD i []) y ≤ 0 := by
  have h := hA.sublist (List.drop_sublist i A)
  rw [drop_at hi] at h ⊢
  intro y hy
  rcases List.mem_cons.1 hy with rfl | hy
  · rw [cmpL_self]; omega
  · exact (List.pairwise_cons.1 h).1 y hy
theorem asc_snoc {Z : List Row} {x : Row} (h : Asc Z) (hx : ∀ z ∈ Z, cmpL z x ≤ 0) : Asc (Z ++ [x]) := by
  refine List.pairwise_append.2 ⟨h, List.pairwise_singleton _ _, fun z hz y hy => ?_⟩
  obtain rfl := List.mem_singleton.1 hy
  exact hx z hz
theorem Mg.left {A B Z : List Row} {i k : Nat} (h : Mg A B i k Z) (hA : Asc A) (hi : i < A.length) (hle : ∀ y ∈ B.drop k, cmpL (A.getD i []) y ≤ 0) : Mg A B (i + 1) k (Z ++ [A.getD i []]) := by
  have hm : A.getD i [] ∈ A.drop i := by rw [drop_at hi]; exact List.mem_cons_self
  refine ⟨asc_snoc h.asc (fun z hz => h.le z hz _ (.inl hm)), ?_, fun x hx y hy => ?_⟩
  · rw [take_at hi]
    have := h.perm.append_right [A.getD i []]
    refine this.trans ?_
    rw [List.append_assoc, List.append_assoc]
    exact List.Perm.append_left _ List.perm_append_comm
  · rcases List.mem_append.1 hx with hx | hx
    · exact h.le x hx y (hy.imp (fun e => by rw [drop_at hi]; exact List.mem_cons_of_mem _ e) id)
    · obtain rfl := List.mem_singleton.1 hx
      rcases hy with hy | hy
      · exact asc_drop_le hA hi y (by rw [drop_at hi]; exact List.mem_cons_of_mem _ hy)
      · exact hle y hy
theorem Mg.right {A B Z : List Row} {i k : Nat} (h : Mg A B i k Z) (hB : Asc B) (hk : k < B.length) (hle : ∀ y ∈ A.drop i, cmpL (B.getD k []) y ≤ 0) : Mg A B i (k + 1) (Z ++ [B.getD k []]) := by
  have hm : B.getD k [] ∈ B.drop k := by rw [drop_at hk]; exact List.mem_cons_self
  refine ⟨asc_snoc h.asc (fun z hz => h.le z hz _ (.inr hm)), ?_, fun x hx y hy => ?_⟩
  · rw [take_at hk, ← List.append_assoc]
    exact h.perm.append_right _
  · rcases List.mem_append.1 hx with hx | hx
    · exact h.le x hx y (hy.imp id (fun e => by rw [drop_at hk]; exact List.mem_cons_of_mem _ e))
    · obtain rfl := List.mem_singleton.1 hx
      rcases hy with hy | hy
      · exact hle y hy
      · exact asc_drop_le hB hk y (by rw [drop_at hk]; exact List.mem_cons_of_mem _ hy)
theorem le_drop {B : List Row} {x : Row} (hB : Asc B) {k : Nat} (hx : k < B.length → cmpL x (B.getD k []) ≤ 0) : ∀ y ∈ B.drop k, cmpL x y ≤ 0 := by
  intro y hy
  have hk : k < B.length := by
    have := List.length_pos_of_mem hy
    rw [List.length_drop] at this; omega
  exact cmpL_trans (hx hk) (asc_drop_le hB hk y hy)
theorem Rws.cellAt {w W : World} {b off n : Nat} {l : List Rw} (h : Rws w (some ⟨b, off, none⟩) n l) (hW : Below w.heap.size w W) {i : Nat} (hi : i < n) : b < w.heap.size ∧ W.cell? ⟨b, off + i, none⟩ = some (l.getD i default).enc := by
  obtain ⟨b', off', ha, hlt, hc⟩ := h.at_.resolve_left (by omega)
  obtain ⟨rfl, rfl⟩ : b = b' ∧ off = off' := by simpa using ha
  exact ⟨hlt, (hW.cell (p := ⟨b, off + i, none⟩) hlt).trans (hc i hi)⟩
theorem Rws.addr {w : World} {a : Option Addr} {n : Nat} {l : List Rw} (h : Rws w a n l) (hn : 0 < n) : ∃ b off, a = some ⟨b, off, none⟩ := by
  obtain ⟨b, off, ha, _⟩ := h.at_.resolve_left (by omega)
  exact ⟨b, off, ha⟩
theorem half_div (n : Nat) (hn : n ≤ 10000) : ((n : Int)).tdiv 2 = ((n / 2 : Nat) : Int) := by rw [Int.tdiv_eq_ediv_of_nonneg (by omega)]; omega
set_option maxHeartbeats 16000000 in
theorem rCanonical_calls : ∀ (n : Nat) (a : Option Addr) (c : Nat) (l : List Rw) (w : World), Rws w a n l → n ≤ 10000 → n ≤ c → c ≤ maxLen →
    Calls Try.prog 17 #[.slice a n c] w fun e w' => CanOf w w' e n (vss l) := by
  intro n
  induction n using Nat.strongRecOn with
  | ind n ih =>
  intro a c l w h hn hnc hc
  by_cases h2 : n < 2
  · exact rCanonical_small a n c l w h h2
  obtain ⟨i0, hi0, hz0, hz1, hz2⟩ := info_parts infoR
  obtain ⟨b, off, rfl⟩ := h.addr (by omega)
  have hge : ¬ ((n : Int) < 2) := by omega
  have hhd := half_div n hn
  have hln := h.ln
  obtain ⟨m, hm⟩ : ∃ m, m = n / 2 := ⟨_, rfl⟩
  rw [← hm] at hhd
  have hm1 : 1 ≤ m := by omega
  have hmn : m < n := by omega
  have CA : Hid (∀ W, Below w.heap.size w W → Calls Try.prog 17 #[.slice (some ⟨b, off, none⟩) m c] W fun e w' => CanOf W w' e m (vss (l.take m))) := Lib.hid fun W hW => ih m hmn _ _ _ W ((h.later hW).take m (by omega)) (by omega) (by omega) hc
  have CB : Hid (∀ W, Below w.heap.size w W → Calls Try.prog 17 #[.slice (some ⟨b, off + m, none⟩) (n - m) (c - m)] W fun e w' => CanOf W w' e (n - m) (vss (l.drop m))) := Lib.hid fun W hW => ih (n - m) (by omega) _ _ _ W ((h.later hW).drop m hmn) (by omega) (by omega) (by omega)
  have hcm : ¬ (c = m) := by omega
  have HLN := Lib.hid hln
  have HIH := Lib.hid ih
  clear ih h hm hln
  unfold maxLen at hc
  go_enter Try.func17, Try.ntmps17
  go_wp2_with fail
  refine wp_region_lin (by kernel_rfl) (by kernel_rfl) ?_
  intro y0
  repeat (refine lin_calm rfl ?_; intro KK hKK; go_big_quiet_step (fail); refine wpQuiet_nil ?_; refine hKK _ ?_; clear hKK KK)
  refine lin_free rfl ?_
  intro KK hKK
  go_wp2_with ((go_at_call 17; ((with_reducible refine (CA.out _ y0.below).mono ?_); rintro e w1 hq; obtain ⟨aa, ca, X, rfl, hx1, hx2, hx3, hx4, hx5, hx6, hx7⟩ := hq; have HX := Lib.hid (And.intro hx1 (And.intro hx2 (And.intro hx3 (And.intro hx4 (And.intro hx5 hx6))))); clear hx1 hx2 hx3 hx4 hx5 hx6; obtain ⟨z1, rfl⟩ := Cls.step y0 (Cls.of hx7); clear hx7)))
  refine hKK _ _ (.inr ⟨z1, rfl⟩) ?_
  clear hKK KK
  repeat (refine lin_calm rfl ?_; intro KK hKK; go_big_quiet_step (fail); refine wpQuiet_nil ?_; refine hKK _ ?_; clear hKK KK)
  refine lin_free rfl ?_
  intro KK hKK
  go_wp2_with ((go_at_call 17; ((with_reducible refine (CB.out _ z1.below).mono ?_); rintro e w2 hq; obtain ⟨ab, cb, Y, rfl, hx1, hx2, hx3, hx4, hx5, hx6, hx7⟩ := hq; have HY := Lib.hid (And.intro hx1 (And.intro hx2 (And.intro hx3 (And.intro hx4 (And.intro hx5 hx6))))); have HA := Lib.hid (HX.out.1.later hx7); clear hx1 hx2 hx3 hx4 hx5 hx6; obtain ⟨z2, rfl⟩ := Cls.step z1 (Cls.of hx7); clear hx7)))
  refine hKK _ _ (.inr ⟨z2, rfl⟩) ?_
  clear hKK KK
  repeat (refine lin_calm rfl ?_; intro KK hKK; go_big_quiet_step (fail); refine wpQuiet_nil ?_; refine hKK _ ?_; clear hKK KK)
  refine lin_nil ?_
  have HW2 := Lib.hid z2.below
  have sw2 := z2.size
  have HB : Hid (Rws z2.val ab (n - m) Y) := Lib.hid HY.out.1
  have HLX : Hid (X.length = m) := Lib.hid HX.out.1.ln
  have HLY : Hid (Y.length = n - m) := Lib.hid HY.out.1.ln
  have HAX : Hid (Asc (vss X)) := Lib.hid HX.out.2.2.2.2.1
  have HAY : Hid (Asc (vss Y)) := Lib.hid HY.out.2.2.2.2.1
  have hcx := HX.out.2.2.1
  have hcy := HY.out.2.2.1
  have hmx := HX.out.2.1
  have hmy := HY.out.2.1
  have hp : Hid (((vss X) ++ (vss Y)).Perm (vss l)) := Lib.hid (by
    have e := HX.out.2.2.2.1.append HY.out.2.2.2.1
    rw [show vss (l.take m) ++ vss (l.drop m) = vss l by unfold vss; rw [← List.map_append, List.take_append_drop]] at e
    exact e)
  obtain ⟨ba, oa, ea⟩ := HA.out.addr (by omega)
  obtain ⟨bb, ob, eb⟩ := HB.out.addr (by omega)
  subst ea eb
  unfold maxLen at hcx hcy
  clear HX HY CA CB HIH
  generalize z2.val = w2 at *
  clear z2 z1 y0 hhd hge hcm
  obtain ⟨q, hq⟩ : ∃ q, q = n - m := ⟨_, rfl⟩
  rw [← hq] at HB HLY hmy ⊢
  have hnmq : n = m + q := by omega
  have HNQ := Lib.hid hnmq
  clear hq hnmq
  go_wp2_with fail
  go_loopw [7, 8, 9] (fun s7 s8 s9 wr => ∃ i k R, i ≤ m ∧ k ≤ q ∧ s8 = .int .i64 ((i : Nat) : Int) ∧ s9 = .int .i64 ((k : Nat) : Int) ∧ Hid (wr.ownsRow w2.heap.size 24 1 s7 (i + k) (flatR R)) ∧ Hid (∀ r ∈ R, r.Ok w2) ∧ Hid (Mg (vss X) (vss Y) i k (vss R)) ∧ Hid (Below w2.heap.size w2 wr)) (fun _ s8 s9 _ => m + q - ((intOf s8).toNat + (intOf s9).toNat))
  case atStart => exact ⟨0, 0, [], Nat.zero_le _, Nat.zero_le _, rfl, rfl, Lib.hid (World.ownsRow_nil _ _ _ _), Lib.hid (fun r hr => by cases hr), Lib.hid (Mg.start _ _), Lib.hid (Below.refl _ _)⟩
  case round =>
    obtain ⟨i, k, R, hi, hk, rfl, rfl, hO, hOK, hMg, hBr⟩ := hrel
    have sr := hBr.out.size
    have hmq : m + q ≤ 10000 := by have := HNQ.out; omega
    by_cases hk' : k < q
    · have hkz : (k : Int) < (q : Int) := by omega
      have hkb : ((k : Int) == (q : Int)) = false := by rw [beq_eq_false_iff_ne]; omega
      have hbB := (HB.out.cellAt hBr.out hk').1
      have qB := (HB.out.cellAt hBr.out hk').2
      have hbB' : bb < wr.heap.size := by omega
      have okB := HB.out.get k
      have hkY : k < (vss Y).length := by rw [vss_len, HLY.out]; exact hk'
      have HOKr : Hid (∀ r ∈ R ++ [Y.getD k default], r.Ok w2) := Lib.hid (fun r hr => (List.mem_append.1 hr).elim (hOK.out r) (fun e => (List.mem_singleton.1 e) ▸ okB))
      by_cases hi' : i < m
      · have hiz : (i : Int) < (m : Int) := by omega
        have hbA := (HA.out.cellAt hBr.out hi').1
        have qA := (HA.out.cellAt hBr.out hi').2
        have hbA' : ba < wr.heap.size := by omega
        have okA := HA.out.get i
        have hiX : i < (vss X).length := by rw [vss_len, HLX.out]; exact hi'
        have HOKl : Hid (∀ r ∈ R ++ [X.getD i default], r.Ok w2) := Lib.hid (fun r hr => (List.mem_append.1 hr).elim (hOK.out r) (fun e => (List.mem_singleton.1 e) ▸ okA))
        have HMl : Hid (cmpL (X.getD i default).vs (Y.getD k default).vs ≤ 0 → Mg (vss X) (vss Y) (i + 1) k (vss (R ++ [X.getD i default]))) := Lib.hid (fun hc => by have e := hMg.out.left HAX.out hiX (le_drop HAY.out (fun _ => by rw [vss_getD, vss_getD]; exact hc)); rw [vss_getD] at e; simpa [vss] using e)
        have HMr : Hid (¬ cmpL (X.getD i default).vs (Y.getD k default).vs ≤ 0 → Mg (vss X) (vss Y) i (k + 1) (vss (R ++ [Y.getD k default]))) := Lib.hid (fun hc => by have e := hMg.out.right HAY.out hkY (le_drop HAX.out (fun _ => by rw [vss_getD, vss_getD]; have := cmpL_neg (X.getD i default).vs (Y.getD k default).vs; omega)); rw [vss_getD] at e; simpa [vss] using e)
        have C : Hid (∀ W, Below wr.heap.size wr W → Calls Try.prog 11 #[(X.getD i default).enc, (Y.getD k default).enc] W fun e w' => e = .returned (.int .i64 (cmpL (X.getD i default).vs (Y.getD k default).vs)) ∧ Cls W w') := Lib.hid fun W hW => rCompareRows_calls _ _ _ _ _ _ _ _ W ((okA.later hBr.out).later hW).holds ((okB.later hBr.out).later hW).holds okA.le okB.le okA.cap okB.cap
        generalize X.getD i default = u at *
        obtain ⟨ra, rl, rc, rv⟩ := u
        simp only [Rw.enc] at qA
        clear okA hiX
        generalize Y.getD k default = v at *
        obtain ⟨qa, ql, qc, qv⟩ := v
        simp only [Rw.enc] at qB
        clear okB hkY
        simp only [Rw.enc] at C
        simp only at C HMl HMr
        generalize cmpL rv qv = qq at *
        by_cases hle : qq ≤ 0
        · have HOK := HOKl
          have HM := Lib.hid (HMl.out hle)
          clear HOKl HOKr HMl HMr
          have tok1 : True := trivial
          go_wp2_with fail
          refine wp_region_ext (by kernel_rfl) (by kernel_rfl) ?_
          repeat (go_big_quiet_step ((go_at_call 11; exact Cls.call (C.out _ (Ext.below _)))))
          refine wpQuiet_nil ?_
          rintro _ ⟨y, rfl⟩
          have sy := y.size
          go_wp2_with (at_builtin; have _t := tok1; refine wpList_append_own _ rfl _ _ 22 rfl w2.heap.size 24 i0 (.slice none 0 0) 1 24 Try.underlying22 hi0 hz0 hz1 hz2 rfl (by decide) _ _ _ rfl (own_later' hO.out (by repeat first | with_reducible exact Below.refl _ _ | with_reducible refine Below.setCell ?_ (by first | omega | (simp; done) | (simp; omega)) _ | with_reducible refine Below.alloc ?_ (by first | omega | (simp; done) | (simp; omega)) _ | with_reducible refine Below.drew ?_ | with_reducible refine Ext.on _ ?_ (by first | omega | (simp; done) | (simp; omega)))) ⟨y.val.heap.size, 0, none⟩ 1 1 [.slice ra rl rc] rfl rfl (cells_new' _ _ _) (flatR_one [(⟨ra, rl, rc, rv⟩ : Rw)]) (by unfold maxLen; omega) (by omega) (by simp; omega) ?_; intro v1 w4 hown4 hg4 _; have HO4 : Hid (w4.ownsRow w2.heap.size 24 1 v1 (i + k + 1) (flatR (R ++ [(⟨ra, rl, rc, rv⟩ : Rw)]))) := Lib.hid (by rw [flatR_snoc2]; exact hown4); have HB4 : Hid (Below w2.heap.size w2 w4) := Lib.hid (Below.grown ((hBr.out.trans (y.below.mono sr)).alloc (by omega) _) hg4 (by simp; omega) (fun g hg => (hO.out.lt g hg).1)); clear hown4 hg4 tok1 _t)
          go_roundw
          case rel => exact ⟨i + 1, k, R ++ [(⟨ra, rl, rc, rv⟩ : Rw)], by omega, by omega, by go_num, by go_num, Lib.hid (by have e := HO4.out; rw [show i + k + 1 = i + 1 + k by omega] at e; exact e), HOK.out, HM.out, HB4⟩
          case measure => simp [intOf]; omega
        · have HOK := HOKr
          have HM := Lib.hid (HMr.out hle)
          clear HOKl HOKr HMl HMr
          have tok1 : True := trivial
          go_wp2_with fail
          refine wp_region_ext (by kernel_rfl) (by kernel_rfl) ?_
          repeat (go_big_quiet_step ((go_at_call 11; exact Cls.call (C.out _ (Ext.below _)))))
          refine wpQuiet_nil ?_
          rintro _ ⟨y, rfl⟩
          have sy := y.size
          go_wp2_with (at_builtin; have _t := tok1; refine wpList_append_own _ rfl _ _ 22 rfl w2.heap.size 24 i0 (.slice none 0 0) 1 24 Try.underlying22 hi0 hz0 hz1 hz2 rfl (by decide) _ _ _ rfl (own_later' hO.out (by repeat first | with_reducible exact Below.refl _ _ | with_reducible refine Below.setCell ?_ (by first | omega | (simp; done) | (simp; omega)) _ | with_reducible refine Below.alloc ?_ (by first | omega | (simp; done) | (simp; omega)) _ | with_reducible refine Below.drew ?_ | with_reducible refine Ext.on _ ?_ (by first | omega | (simp; done) | (simp; omega)))) ⟨y.val.heap.size, 0, none⟩ 1 1 [.slice qa ql qc] rfl rfl (cells_new' _ _ _) (flatR_one [(⟨qa, ql, qc, qv⟩ : Rw)]) (by unfold maxLen; omega) (by omega) (by simp; omega) ?_; intro v1 w4 hown4 hg4 _; have HO4 : Hid (w4.ownsRow w2.heap.size 24 1 v1 (i + k + 1) (flatR (R ++ [(⟨qa, ql, qc, qv⟩ : Rw)]))) := Lib.hid (by rw [flatR_snoc2]; exact hown4); have HB4 : Hid (Below w2.heap.size w2 w4) := Lib.hid (Below.grown ((hBr.out.trans (y.below.mono sr)).alloc (by omega) _) hg4 (by simp; omega) (fun g hg => (hO.out.lt g hg).1)); clear hown4 hg4 tok1 _t)
          go_roundw
          case rel => exact ⟨i, k + 1, R ++ [(⟨qa, ql, qc, qv⟩ : Rw)], by omega, by omega, by go_num, by go_num, Lib.hid (by have e := HO4.out; rw [show i + k + 1 = i + (k + 1) by omega] at e; exact e), HOK.out, HM.out, HB4⟩
          case measure => simp [intOf]; omega
      · obtain rfl : m = i := by omega
        have HM : Hid (Mg (vss X) (vss Y) m (k + 1) (vss (R ++ [Y.getD k default]))) := Lib.hid (by have e := hMg.out.right HAY.out hkY (le_drop HAX.out (fun hlt => absurd hlt (by rw [vss_len, HLX.out]; omega))); rw [vss_getD] at e; simpa [vss] using e)
        have HOK := HOKr
        clear HOKr
        generalize Y.getD k default = v at *
        obtain ⟨qa, ql, qc, qv⟩ := v
        simp only [Rw.enc] at qB
        clear okB hkY
        have tok1 : True := trivial
        go_wp2_with fail
        refine wp_region_ext (by kernel_rfl) (by kernel_rfl) ?_
        repeat (go_big_quiet_step (fail))
        refine wpQuiet_nil ?_
        rintro _ ⟨y, rfl⟩
        have sy := y.size
        go_wp2_with (at_builtin; have _t := tok1; refine wpList_append_own _ rfl _ _ 22 rfl w2.heap.size 24 i0 (.slice none 0 0) 1 24 Try.underlying22 hi0 hz0 hz1 hz2 rfl (by decide) _ _ _ rfl (own_later' hO.out (by repeat first | with_reducible exact Below.refl _ _ | with_reducible refine Below.setCell ?_ (by first | omega | (simp; done) | (simp; omega)) _ | with_reducible refine Below.alloc ?_ (by first | omega | (simp; done) | (simp; omega)) _ | with_reducible refine Below.drew ?_ | with_reducible refine Ext.on _ ?_ (by first | omega | (simp; done) | (simp; omega)))) ⟨y.val.heap.size, 0, none⟩ 1 1 [.slice qa ql qc] rfl rfl (cells_new' _ _ _) (flatR_one [(⟨qa, ql, qc, qv⟩ : Rw)]) (by unfold maxLen; omega) (by omega) (by simp; omega) ?_; intro v1 w4 hown4 hg4 _; have HO4 : Hid (w4.ownsRow w2.heap.size 24 1 v1 (m + k + 1) (flatR (R ++ [(⟨qa, ql, qc, qv⟩ : Rw)]))) := Lib.hid (by rw [flatR_snoc2]; exact hown4); have HB4 : Hid (Below w2.heap.size w2 w4) := Lib.hid (Below.grown ((hBr.out.trans (y.below.mono sr)).alloc (by omega) _) hg4 (by simp; omega) (fun g hg => (hO.out.lt g hg).1)); clear hown4 hg4 tok1 _t)
        go_roundw
        case rel => exact ⟨m, k + 1, R ++ [(⟨qa, ql, qc, qv⟩ : Rw)], by omega, by omega, by go_num, by go_num, Lib.hid (by have e := HO4.out; rw [show m + k + 1 = m + (k + 1) by omega] at e; exact e), HOK.out, HM.out, HB4⟩
        case measure => simp [intOf]; omega
    · obtain rfl : q = k := by omega
      by_cases hi' : i < m
      · have hiz : (i : Int) < (m : Int) := by omega
        have hbA := (HA.out.cellAt hBr.out hi').1
        have qA := (HA.out.cellAt hBr.out hi').2
        have hbA' : ba < wr.heap.size := by omega
        have okA := HA.out.get i
        have hiX : i < (vss X).length := by rw [vss_len, HLX.out]; exact hi'
        have HOKl : Hid (∀ r ∈ R ++ [X.getD i default], r.Ok w2) := Lib.hid (fun r hr => (List.mem_append.1 hr).elim (hOK.out r) (fun e => (List.mem_singleton.1 e) ▸ okA))
        have HM : Hid (Mg (vss X) (vss Y) (i + 1) q (vss (R ++ [X.getD i default]))) := Lib.hid (by have e := hMg.out.left HAX.out hiX (le_drop HAY.out (fun hlt => absurd hlt (by rw [vss_len, HLY.out]; omega))); rw [vss_getD] at e; simpa [vss] using e)
        have HOK := HOKl
        clear HOKl
        generalize X.getD i default = u at *
        obtain ⟨ra, rl, rc, rv⟩ := u
        simp only [Rw.enc] at qA
        clear okA hiX
        have tok1 : True := trivial
        go_wp2_with fail
        refine wp_region_ext (by kernel_rfl) (by kernel_rfl) ?_
        repeat (go_big_quiet_step (fail))
        refine wpQuiet_nil ?_
        rintro _ ⟨y, rfl⟩
        have sy := y.size
        go_wp2_with (at_builtin; have _t := tok1; refine wpList_append_own _ rfl _ _ 22 rfl w2.heap.size 24 i0 (.slice none 0 0) 1 24 Try.underlying22 hi0 hz0 hz1 hz2 rfl (by decide) _ _ _ rfl (own_later' hO.out (by repeat first | with_reducible exact Below.refl _ _ | with_reducible refine Below.setCell ?_ (by first | omega | (simp; done) | (simp; omega)) _ | with_reducible refine Below.alloc ?_ (by first | omega | (simp; done) | (simp; omega)) _ | with_reducible refine Below.drew ?_ | with_reducible refine Ext.on _ ?_ (by first | omega | (simp; done) | (simp; omega)))) ⟨y.val.heap.size, 0, none⟩ 1 1 [.slice ra rl rc] rfl rfl (cells_new' _ _ _) (flatR_one [(⟨ra, rl, rc, rv⟩ : Rw)]) (by unfold maxLen; omega) (by omega) (by simp; omega) ?_; intro v1 w4 hown4 hg4 _; have HO4 : Hid (w4.ownsRow w2.heap.size 24 1 v1 (i + q + 1) (flatR (R ++ [(⟨ra, rl, rc, rv⟩ : Rw)]))) := Lib.hid (by rw [flatR_snoc2]; exact hown4); have HB4 : Hid (Below w2.heap.size w2 w4) := Lib.hid (Below.grown ((hBr.out.trans (y.below.mono sr)).alloc (by omega) _) hg4 (by simp; omega) (fun g hg => (hO.out.lt g hg).1)); clear hown4 hg4 tok1 _t)
        go_roundw
        case rel => exact ⟨i + 1, q, R ++ [(⟨ra, rl, rc, rv⟩ : Rw)], by omega, by omega, by go_num, by go_num, Lib.hid (by have e := HO4.out; rw [show i + q + 1 = i + 1 + q by omega] at e; exact e), HOK.out, HM.out, HB4⟩
        case measure => simp [intOf]; omega
      · obtain rfl : m = i := by omega
        have hpe := hMg.out.perm
        rw [List.take_of_length_le (by rw [vss_len, HLX.out]; exact Nat.le_refl _), List.take_of_length_le (by rw [vss_len, HLY.out]; exact Nat.le_refl _)] at hpe
        have HPE := Lib.hid (hpe.trans hp.out)
        clear hpe
        go_wp2_with fail
        go_ret
        have ho := hO.out
        rw [← HNQ.out] at ho
        obtain ⟨a1, c1, rfl, k1, k2, k3, k4⟩ := Rws.own' ho (fun r hr => (hOK.out r hr).later hBr.out)
        exact ⟨a1, c1, R, rfl, k3, k1, k2, HPE.out, hMg.out.asc, k4, HW2.out.trans (hBr.out.mono sw2)⟩
end Go.Proofs.Ytihdfomkphbdnaa
