/-
  Difference of the program and of the reference; Contains of the reference.
-/
import Derived.Test.YtihdfomkphbdnaaROps
set_option linter.unusedVariables false
namespace Go.Proofs.Ytihdfomkphbdnaa
open Go Go.RowKit
/-- The first row that does not occur equally often in both. -/
def DifOf (A B : List Row) (r : Row) (m n : Nat) : Prop :=
  ((∀ x, A.count x = B.count x) ∧ r = [] ∧ m = 0 ∧ n = 0) ∨ (m ≠ n ∧ m = A.count r ∧ n = B.count r ∧ ∀ x, cmpL x r < 0 → A.count x = B.count x)
theorem DifOf.unique {A B : List Row} {r r' : Row} {m n m' n' : Nat} (h : DifOf A B r m n) (h' : DifOf A B r' m' n') : r = r' ∧ m = m' ∧ n = n' := by
  rcases h with ⟨h1, rfl, rfl, rfl⟩ | ⟨h1, h2, h3, h4⟩ <;> rcases h' with ⟨g1, rfl, rfl, rfl⟩ | ⟨g1, g2, g3, g4⟩
  · exact ⟨rfl, rfl, rfl⟩
  · exact absurd (by rw [g2, g3]; exact h1 r') g1
  · exact absurd (by rw [h2, h3]; exact g1 r) h1
  · have e : r = r' := by
      rcases Int.lt_trichotomy (cmpL r r') 0 with q | q | q
      · exact absurd (by rw [h2, h3]; exact g4 r q) h1
      · exact cmpL_zero q
      · have := cmpL_neg r r'
        exact absurd (by rw [g2, g3]; exact h4 r' (by omega)) g1
    subst e
    exact ⟨rfl, by rw [h2, g2], by rw [h3, g3]⟩
theorem dif_hit {A B : List Row} {T : List Tr} (h : TalOf A B (T.map Tr.tl)) {j : Nat} (hj : j < T.length) (hne : (T.getD j default).m ≠ (T.getD j default).n) (h0 : ∀ k, k < j → (T.getD k default).m = (T.getD k default).n) : DifOf A B (T.getD j default).row.vs (T.getD j default).m (T.getD j default).n := by
  have gd : ∀ k, (hk : k < T.length) → T.getD k default = T[k] := fun k hk => by simp [List.getD, hk]
  obtain ⟨e1, e2⟩ := h.2.1 _ (List.mem_map_of_mem (f := Tr.tl) (getD_mem hj))
  refine .inr ⟨hne, e1, e2, fun x hx => ?_⟩
  by_cases hr : 0 < A.count x + B.count x
  · obtain ⟨t, ht, rfl⟩ := h.2.2 x hr
    obtain ⟨t', ht', rfl⟩ := List.mem_map.1 ht
    obtain ⟨k, hk, rfl⟩ := List.mem_iff_getElem.1 ht'
    obtain ⟨f1, f2⟩ := h.2.1 _ ht
    have hkj : k < j := by
      rcases Nat.lt_or_ge k j with q | q
      · exact q
      · rcases Nat.lt_or_eq_of_le q with q | q
        · have hp := List.pairwise_iff_getElem.1 h.1 j k (by simpa using hj) (by simpa using hk) q
          simp only [List.getElem_map] at hp
          rw [gd j hj] at hx
          have hn := cmpL_neg T[j].tl.r T[k].tl.r
          have hx' : cmpL T[k].tl.r T[j].tl.r < 0 := hx
          omega
        · subst q
          rw [gd j hj] at hx
          have hx' : cmpL T[j].row.vs T[j].row.vs < 0 := hx
          rw [cmpL_self] at hx'
          omega
    have := h0 k hkj
    rw [gd k hk] at this
    rw [← f1, ← f2]
    exact this
  · omega
theorem dif_miss {A B : List Row} {T : List Tr} (h : TalOf A B (T.map Tr.tl)) (h0 : ∀ k, k < T.length → (T.getD k default).m = (T.getD k default).n) : DifOf A B [] 0 0 := by
  refine .inl ⟨fun x => ?_, rfl, rfl, rfl⟩
  by_cases hr : 0 < A.count x + B.count x
  · obtain ⟨t, ht, rfl⟩ := h.2.2 x hr
    obtain ⟨t', ht', rfl⟩ := List.mem_map.1 ht
    obtain ⟨k, hk, rfl⟩ := List.mem_iff_getElem.1 ht'
    obtain ⟨f1, f2⟩ := h.2.1 _ ht
    have := h0 k hk
    have e : T.getD k default = T[k] := by simp [List.getD, hk]
    rw [e] at this
    rw [← f1, ← f2]
    exact this
  · omega
/-- What Difference gives. -/
def Difs (w w' : World) (e : Ending) (A B : List Row) : Prop :=
  ∃ (r : Rw) (m n : Nat), e = .returned (.tuple #[r.enc, .int .i64 (m : Int), .int .i64 (n : Int)]) ∧ r.Ok w' ∧ DifOf A B r.vs m n ∧ m ≤ 10000 ∧ n ≤ 10000 ∧ Below w.heap.size w w'
set_option maxHeartbeats 8000000 in
theorem Difference_calls (a : Option Addr) (n c : Nat) (l : List Rw) (a' : Option Addr) (n' c' : Nat) (l' : List Rw) (w : World) (h : Rws w a n l) (h' : Rws w a' n' l') (hn : n ≤ 10000) (hn' : n' ≤ 10000) :
    Calls Try.prog 9 #[.slice a n c, .slice a' n' c'] w fun e w' => Difs w w' e (vss l) (vss l') := by
  have C1 := Lib.hid (tallies_calls a n c l a' n' c' l' w h h' hn hn')
  have hl := h.ln
  have hl' := h'.ln
  clear h h'
  go_enter Try.func9, Try.ntmps9
  go_wp2_with (go_at_call 28; ((with_reducible refine C1.out.mono ?_); rintro e w1 ⟨v, T, w0, rfl, hx⟩; have H1 := Lib.hid hx; clear hx; obtain ⟨at', ct, ev, kt, mt, dt⟩ := H1.out.1.read; have HD := Lib.hid dt; subst ev; clear dt))
  obtain ⟨ho, hT, hTl, hb0, hb⟩ := H1.out
  have HT := Lib.hid hT
  have HMN : Hid (∀ i, i < T.length → (T.getD i default).m ≤ 10000 ∧ (T.getD i default).n ≤ 10000) := Lib.hid fun i hi => by
    have := hT.bound i hi
    rw [vss_len, vss_len] at this
    omega
  have HO := Lib.hid ho
  have hbt := hb.trans (hb0.mono hb.size)
  have HB := Lib.hid hbt
  have HB0 := Lib.hid hb0
  have sw := hbt.size
  unfold maxLen at mt
  clear H1 hT ho hb0 hb hbt C1
  go_loopw [13] (fun s wr => ∃ j : Nat, j ≤ T.length ∧ s = .int .i64 ((j : Nat) : Int) ∧ Hid (∀ k, k < j → (T.getD k default).m = (T.getD k default).n) ∧ Cls w1 wr) (fun s _ => T.length - (intOf s).toNat)
  case atStart => exact ⟨0, Nat.zero_le _, rfl, Lib.hid (fun k hk => absurd hk (Nat.not_lt_zero _)), Cls.of (Below.refl _ _)⟩
  case round =>
    obtain ⟨j, hj, rfl, h0, x, rfl⟩ := hrel
    have sx := x.size
    by_cases h1 : j < T.length
    · obtain ⟨b, ea, hbb, hcell⟩ := HD.out.resolve_left (by omega)
      obtain ⟨q0, q1, q2⟩ := hcell j h1
      have HOK : Hid (Rw.Ok w1 (T.getD j default).row) := Lib.hid ((HO.out.get j).later HB0.out)
      have hmn := HMN.out j h1
      have HS : Hid ((T.getD j default).m = (T.getD j default).n → ∀ k, k < j + 1 → (T.getD k default).m = (T.getD k default).n) := Lib.hid (fun e k hk => by
        by_cases hkj : k = j
        · subst hkj; exact e
        · exact h0.out k (by omega))
      have HH : Hid ((T.getD j default).m ≠ (T.getD j default).n → DifOf (vss l) (vss l') (T.getD j default).row.vs (T.getD j default).m (T.getD j default).n) := Lib.hid (fun e => dif_hit HT.out h1 e h0.out)
      clear hcell HD HO h0
      subst ea
      generalize T.getD j default = t at *
      obtain ⟨⟨ra, rl, rc, rv⟩, m, k⟩ := t
      simp only [Rw.enc] at q0 q1 q2
      simp only at hmn HOK HS HH
      by_cases hmk : m = k
      · subst hmk
        have HS1 := Lib.hid (HS.out rfl)
        clear HS HH
        go_wp2_with fail
        go_roundw
        case rel => exact ⟨j + 1, by omega, by go_num, HS1, Cls.of (x.on (Below.refl _ _) (Nat.le_refl _) |>.alloc (by omega) _)⟩
        case measure => simp [intOf]; omega
      · have HH1 := Lib.hid (HH.out hmk)
        have hmkz : ((m : Int) == (k : Int)) = false := by rw [beq_eq_false_iff_ne]; omega
        have hmkz2 : ¬ ((m : Int) = (k : Int)) := by omega
        clear HS HH
        have CC : Hid (∀ W, Below w1.heap.size w1 W → Calls Try.prog 29 #[.slice ra rl rc] W fun e w' => ∃ r' : Rw, e = .returned r'.enc ∧ r'.vs = rv ∧ r'.len = rl ∧ r'.Ok w' ∧ (∀ x, r'.a = some x → W.heap.size ≤ x.block) ∧ Below W.heap.size W w') := Lib.hid fun W hW => CloneRow_calls ⟨ra, rl, rc, rv⟩ W (HOK.out.later hW)
        go_upto_region 5 with fail
        refine wp_region_lin (by kernel_rfl) (by kernel_rfl) ?_
        intro y0
        have hbs : x.val.heap.size < (x.val.alloc (.cells #[.slice ra rl rc, .int .i64 (m : Int), .int .i64 (k : Int)] 37)).heap.size := by simp
        have HBy : Hid (∀ (y : type_of% y0), Below w1.heap.size w1 y.val) := Lib.hid (fun y => y.on ((x.on (Below.refl _ _) (Nat.le_refl _)).alloc (by omega) _) (by simp; omega))
        repeat (refine lin_calm rfl ?_; intro KK hKK; go_big_quiet_step (fail); refine wpQuiet_nil ?_; refine hKK _ ?_; clear hKK KK)
        refine lin_free rfl ?_
        intro KK hKK
        go_wp2_with ((go_at_call 29; ((with_reducible refine (CC.out _ (HBy.out y0)).mono ?_); rintro e w3 ⟨⟨pa, pl, pc, pv⟩, he, hvs, hl3, hok3, hf3, hx3⟩; have he2 : e = .returned (.slice pa pl pc) := he; clear he; subst he2; have HVS := Lib.hid hvs; have HK3 := Lib.hid hok3; clear hvs hl3 hf3 hok3; obtain ⟨z1, rfl⟩ := Cls.step y0 (Cls.of hx3); clear hx3)))
        refine hKK _ _ (.inr ⟨z1, rfl⟩) ?_
        clear hKK KK
        repeat (refine lin_calm rfl ?_; intro KK hKK; go_big_quiet_step (fail); refine wpQuiet_nil ?_; refine hKK _ ?_; clear hKK KK)
        refine lin_nil ?_
        go_wp2_with fail
        go_ret3
        exact ⟨⟨pa, pl, pc, pv⟩, m, k, rfl, HK3.out, by rw [HVS.out]; exact HH1.out, hmn.1, hmn.2, HB.out.trans ((HBy.out z1).mono sw)⟩
    · obtain rfl : T.length = j := by omega
      have HM := Lib.hid (dif_miss HT.out h0.out)
      clear h0
      go_wp2_with fail
      go_ret3
      exact ⟨default, 0, 0, rfl, Rw.Ok.nil _, HM.out, by omega, by omega, HB.out.trans (x.below.mono sw)⟩
set_option maxHeartbeats 8000000 in
theorem rDifference_calls (a : Option Addr) (n c : Nat) (l : List Rw) (a' : Option Addr) (n' c' : Nat) (l' : List Rw) (w : World) (h : Rws w a n l) (h' : Rws w a' n' l') (hn : n ≤ 10000) (hn' : n' ≤ 10000) (hnc : n ≤ c) (hnc' : n' ≤ c') (hc : c ≤ maxLen) (hc' : c' ≤ maxLen) :
    Calls Try.prog 10 #[.slice a n c, .slice a' n' c'] w fun e w' => Difs w w' e (vss l) (vss l') := by
  have C1 := Lib.hid (groups_calls a n c l a' n' c' l' w h h' hn hn' hnc hnc' hc hc')
  have hl := h.ln
  have hl' := h'.ln
  clear h h' hnc hnc' hc hc'
  go_enter Try.func10, Try.ntmps10
  go_wp2_with (go_at_call 30; ((with_reducible refine C1.out.mono ?_); rintro e w1 ⟨v, T, w0, rfl, hx⟩; have H1 := Lib.hid hx; clear hx; obtain ⟨at', ct, ev, kt, mt, dt⟩ := H1.out.1.read; have HD := Lib.hid dt; subst ev; clear dt))
  obtain ⟨ho, hT, hTl, hpos, hb0, hb⟩ := H1.out
  have HT := Lib.hid hT
  have HMN : Hid (∀ i, i < T.length → (T.getD i default).m ≤ 10000 ∧ (T.getD i default).n ≤ 10000) := Lib.hid fun i hi => by
    have := hT.bound i hi
    rw [vss_len, vss_len] at this
    omega
  have HO := Lib.hid ho
  have hbt := hb.trans (hb0.mono hb.size)
  have HB := Lib.hid hbt
  have HB0 := Lib.hid hb0
  have sw := hbt.size
  unfold maxLen at mt
  clear H1 hT ho hb0 hb hbt C1 hpos
  go_loopw [8] (fun s wr => ∃ j : Nat, j ≤ T.length ∧ s = .int .i64 ((j : Nat) : Int) ∧ Hid (∀ k, k < j → (T.getD k default).m = (T.getD k default).n) ∧ Cls w1 wr) (fun s _ => T.length - (intOf s).toNat)
  case atStart => exact ⟨0, Nat.zero_le _, rfl, Lib.hid (fun k hk => absurd hk (Nat.not_lt_zero _)), Cls.of (Below.refl _ _)⟩
  case round =>
    obtain ⟨j, hj, rfl, h0, x, rfl⟩ := hrel
    have sx := x.size
    by_cases h1 : j < T.length
    · obtain ⟨b, ea, hbb, hcell⟩ := HD.out.resolve_left (by omega)
      obtain ⟨q0, q1, q2⟩ := hcell j h1
      have HOK : Hid (Rw.Ok w1 (T.getD j default).row) := Lib.hid ((HO.out.get j).later HB0.out)
      have hmn := HMN.out j h1
      have HS : Hid ((T.getD j default).m = (T.getD j default).n → ∀ k, k < j + 1 → (T.getD k default).m = (T.getD k default).n) := Lib.hid (fun e k hk => by
        by_cases hkj : k = j
        · subst hkj; exact e
        · exact h0.out k (by omega))
      have HH : Hid ((T.getD j default).m ≠ (T.getD j default).n → DifOf (vss l) (vss l') (T.getD j default).row.vs (T.getD j default).m (T.getD j default).n) := Lib.hid (fun e => dif_hit HT.out h1 e h0.out)
      clear hcell HD HO h0
      subst ea
      generalize T.getD j default = t at *
      obtain ⟨⟨ra, rl, rc, rv⟩, m, k⟩ := t
      simp only [Rw.enc] at q0 q1 q2
      simp only at hmn HOK HS HH
      by_cases hmk : m = k
      · subst hmk
        have HS1 := Lib.hid (HS.out rfl)
        clear HS HH
        go_wp2_with fail
        refine wp_region_on (by kernel_rfl) (by kernel_rfl) ?_
        repeat (go_big_quiet_step (fail))
        refine wpQuiet_nil ?_
        rintro _ ⟨y, rfl⟩
        go_wp2_with fail
        go_roundw
        case rel => exact ⟨j + 1, by omega, by go_num, HS1, y, rfl⟩
        case measure => simp [intOf]; omega
      · have HH1 := Lib.hid (HH.out hmk)
        have hmkz : ((m : Int) == (k : Int)) = false := by rw [beq_eq_false_iff_ne]; omega
        have hmkz2 : ¬ ((m : Int) = (k : Int)) := by omega
        clear HS HH
        go_wp2_with fail
        refine wp_region_on (by kernel_rfl) (by kernel_rfl) ?_
        repeat (go_big_quiet_step (fail))
        refine wpQuiet_nil ?_
        rintro _ ⟨y, rfl⟩
        go_wp2_with fail
        refine wp_region_on (by kernel_rfl) (by kernel_rfl) ?_
        repeat (go_big_quiet_step (fail))
        refine wpQuiet_nil ?_
        rintro _ ⟨z, rfl⟩
        go_wp2_with fail
        go_ret3
        exact ⟨⟨ra, rl, rc, rv⟩, m, k, rfl, HOK.out.later z.below, HH1.out, hmn.1, hmn.2, HB.out.trans (z.below.mono sw)⟩
    · obtain rfl : T.length = j := by omega
      have HM := Lib.hid (dif_miss HT.out h0.out)
      clear h0
      go_wp2_with fail
      go_ret3
      exact ⟨default, 0, 0, rfl, Rw.Ok.nil _, HM.out, by omega, by omega, HB.out.trans (x.below.mono sw)⟩
set_option maxHeartbeats 8000000 in
theorem rContains_calls (a : Option Addr) (n c : Nat) (l : List Rw) (a' : Option Addr) (n' c' : Nat) (l' : List Rw) (w : World) (h : Rws w a n l) (h' : Rws w a' n' l') (hn : n ≤ 10000) (hn' : n' ≤ 10000) (hnc : n ≤ c) (hnc' : n' ≤ c') (hc : c ≤ maxLen) (hc' : c' ≤ maxLen) :
    Calls Try.prog 14 #[.slice a n c, .slice a' n' c'] w fun e w' => e = .returned (.bool (geB (vss l) (vss l'))) ∧ Cls w w' := by
  have C1 := Lib.hid (groups_calls a n c l a' n' c' l' w h h' hn hn' hnc hnc' hc hc')
  have hl := h.ln
  have hl' := h'.ln
  clear h h' hnc hnc' hc hc'
  go_enter Try.func14, Try.ntmps14
  go_wp2_with (go_at_call 30; ((with_reducible refine C1.out.mono ?_); rintro e w1 ⟨v, T, w0, rfl, hx⟩; have H1 := Lib.hid hx; clear hx; obtain ⟨at', ct, ev, kt, mt, dt⟩ := H1.out.1.read; have HD := Lib.hid dt; subst ev; clear dt))
  obtain ⟨ho, hT, hTl, hpos, hb0, hb⟩ := H1.out
  have HG : Hid ((!T.any fun t => decide (t.m < t.n)) = geB (vss l) (vss l')) := Lib.hid (by have e := hT.geB; rw [any_map] at e; exact e)
  have HMN : Hid (∀ i, i < T.length → (T.getD i default).m ≤ 10000 ∧ (T.getD i default).n ≤ 10000) := Lib.hid fun i hi => by
    have := hT.bound i hi
    rw [vss_len, vss_len] at this
    omega
  have hbt := hb.trans (hb0.mono hb.size)
  have HB := Lib.hid hbt
  have sw := hbt.size
  unfold maxLen at mt
  clear H1 hT ho hb0 hb hbt C1 hpos
  go_loopw [6] (fun s wr => ∃ j : Nat, j ≤ T.length ∧ s = .int .i64 ((j : Nat) : Int) ∧ Hid (∀ k, k < j → decide ((T.getD k default).m < (T.getD k default).n) = false) ∧ Cls w1 wr) (fun s _ => T.length - (intOf s).toNat)
  case atStart => exact ⟨0, Nat.zero_le _, rfl, Lib.hid (fun k hk => absurd hk (Nat.not_lt_zero _)), Cls.of (Below.refl _ _)⟩
  case round =>
    obtain ⟨j, hj, rfl, h0, x, rfl⟩ := hrel
    have sx := x.size
    by_cases h1 : j < T.length
    · obtain ⟨b, ea, hbb, hcell⟩ := HD.out.resolve_left (by omega)
      obtain ⟨q0, q1, q2⟩ := hcell j h1
      have hmn := HMN.out j h1
      have HS : Hid (¬ (T.getD j default).m < (T.getD j default).n → ∀ k, k < j + 1 → decide ((T.getD k default).m < (T.getD k default).n) = false) := Lib.hid (fun e k hk => by
        by_cases hkj : k = j
        · subst hkj; exact decide_eq_false e
        · exact h0.out k (by omega))
      have HH : Hid ((T.getD j default).m < (T.getD j default).n → geB (vss l) (vss l') = false) := Lib.hid (fun e => by
        rw [← HG.out]
        have : (T.any fun t => decide (t.m < t.n)) = true := List.any_eq_true.2 ⟨_, getD_mem h1, decide_eq_true e⟩
        rw [this]; rfl)
      clear hcell HD h0
      subst ea
      generalize T.getD j default = t at *
      obtain ⟨⟨ra, rl, rc, rv⟩, m, k⟩ := t
      simp only [Rw.enc] at q0 q1 q2
      simp only at hmn HS HH
      by_cases hmk : m < k
      · have HH1 := Lib.hid (HH.out hmk)
        have hmz : (m : Int) < (k : Int) := by omega
        clear HS HH
        go_wp2_with fail
        refine wp_region_on (by kernel_rfl) (by kernel_rfl) ?_
        repeat (go_big_quiet_step (fail))
        refine wpQuiet_nil ?_
        rintro _ ⟨y, rfl⟩
        go_wp2_with fail
        go_ret
        exact ⟨ret_bool HH1.out.symm, Cls.of (HB.out.trans (y.below.mono sw))⟩
      · have HS1 := Lib.hid (HS.out hmk)
        have hmz : ¬ (m : Int) < (k : Int) := by omega
        clear HS HH
        go_wp2_with fail
        refine wp_region_on (by kernel_rfl) (by kernel_rfl) ?_
        repeat (go_big_quiet_step (fail))
        refine wpQuiet_nil ?_
        rintro _ ⟨y, rfl⟩
        go_wp2_with fail
        go_roundw
        case rel => exact ⟨j + 1, by omega, by go_num, HS1, y, rfl⟩
        case measure => simp [intOf]; omega
    · obtain rfl : T.length = j := by omega
      have HM : Hid (geB (vss l) (vss l') = true) := Lib.hid (by
        rw [← HG.out, fstT_miss (p := fun t => decide (t.m < t.n)) h0.out]; rfl)
      clear h0
      go_wp2_with fail
      go_ret
      exact ⟨ret_bool HM.out.symm, Cls.of (HB.out.trans (x.below.mono sw))⟩
end Go.Proofs.Ytihdfomkphbdnaa
