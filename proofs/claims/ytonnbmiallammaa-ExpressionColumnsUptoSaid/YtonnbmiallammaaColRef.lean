/-
  The columns of an expression, as the reference gathers them: what its insert and its Columns give.
-/
import Derived.Test.YtonnbmiallammaaColMath
import Derived.Test.YtonnbmiallammaaTab
import Derived.Maps.AppendAt
import Derived.Laws.AppendOwnNone
import Derived.OwnWalk
import Derived.Laws.Entries
import Derived.BigQuiet
set_option linter.unusedVariables false
namespace Go.Proofs.Ytonnbmiallammaa
open Go Go.RowKit Go.Deep
def flatI (l : List Int) : List Value := l.map fun n => .int .i64 n
theorem flatI_append (l m : List Int) : flatI (l ++ m) = flatI l ++ flatI m := by simp [flatI]
theorem flatI_length (l : List Int) : (flatI l).length = l.length := by simp [flatI]
theorem flatI_one (l : List Int) : ∀ u ∈ flatI l, u.oneCell' = true := by
  intro u h
  obtain ⟨n, _, rfl⟩ := List.mem_map.1 h
  rfl
theorem infoI : (Try.prog.info? 3).map (fun i => (i.zero, i.size, i.bytes)) = some (some (.int .i64 0), 1, 8) := by kernel_rfl
theorem add_none (b off j : Nat) : (⟨b, off, none⟩ : Addr).add j = ⟨b, off + j, none⟩ := by unfold Addr.add; split <;> simp_all
theorem cells_new' (w : World) (l : List Value) (t : TypeId) : ∀ j u, l[j]? = some u → (w.alloc (.cells l.toArray t)).cell? ((⟨w.heap.size, 0, none⟩ : Addr).add j) = some u := by
  intro j u h
  rw [add_none, Nat.zero_add, cell_of_row _ _ _ l.toArray t (0, 0) (heap_alloc_new w _)]
  simpa using h
theorem own_later' {w w' : World} {base size n : Nat} {e : TypeId} {v : Value} {xs : List Value} (h : w.ownsRow base e size v n xs) (hb : Below w.heap.size w w') : w'.ownsRow base e size v n xs := by
  refine ⟨h.1, h.2.imp id ?_⟩
  rintro ⟨g, cap, cur, hv, hg, hh, rest⟩
  exact ⟨g, cap, cur, hv, hg, (hb.block g (Array.getElem?_eq_some_iff.1 hh).1).trans hh, rest⟩
def iC (l : List Int) (i : Nat) : List Value := [.int .i64 (l.getD i 0)]
/-- The slice holds these numbers. -/
def IntsIn (w : World) (s : Sl) (l : List Int) : Prop := s.len = l.length ∧ SlAt w 1 s (iC l)
theorem IntsIn.later {w w' : World} {s : Sl} {l : List Int} (h : IntsIn w s l) (hb : Below w.heap.size w w') : IntsIn w' s l := ⟨h.1, h.2.later hb⟩
theorem IntsIn.nil {w : World} : IntsIn w Sl.z [] := ⟨rfl, Nat.le_refl _, Nat.zero_le _, fun _ => ⟨rfl, rfl⟩, fun i hi => absurd hi (Nat.not_lt_zero _)⟩
theorem IntsIn.at_ {w : World} {s : Sl} {l : List Int} (h : IntsIn w s l) {j : Nat} (hj : j < l.length) : ∃ b off, s.a = some ⟨b, off, none⟩ ∧ b < w.heap.size ∧ w.cell? ⟨b, off + j, none⟩ = some (.int .i64 (l.getD j 0)) := by
  obtain ⟨b, off, ha, hb, hc⟩ := h.2.2.2.2 j (by rw [h.1]; exact hj)
  have := hc 0 (by omega)
  rw [Nat.mul_one, Nat.add_zero] at this
  exact ⟨b, off, ha, hb, this⟩
/-- A row of numbers that a call made, as a slice. -/
theorem IntsIn.of_own {w : World} {base : Nat} {v : Value} {l : List Int} (h : w.ownsRow base 3 1 v l.length (flatI l)) : ∃ s : Sl, v = s.v ∧ IntsIn w s l := by
  rcases h.2 with ⟨rfl, h0⟩ | ⟨g, cap, cur, rfl, hb, hh, hn, hc, hr, ht⟩
  · refine ⟨Sl.z, rfl, h0.symm, Nat.le_refl _, Nat.zero_le _, fun _ => ⟨rfl, rfl⟩, fun i hi => absurd hi (Nat.not_lt_zero _)⟩
  · refine ⟨⟨some ⟨g, 0, none⟩, l.length, cap⟩, rfl, rfl, ⟨hn, hc, (fun h => by cases h), fun i hi => ⟨g, 0, rfl, (Array.getElem?_eq_some_iff.1 hh).1, fun j hj => ?_⟩⟩⟩
    have hi2 : i < l.length := hi
    have hcell := World.ownsRow.cells h (g := g) rfl
    have c0 := hcell i (.int .i64 (l.getD i 0)) (by simp [flatI, List.getD, hi2])
    rw [add_none] at c0
    obtain rfl : j = 0 := by omega
    rw [Nat.mul_one, Nat.add_zero, c0]; rfl
/-- What lies in a piece of the slice. -/
theorem IntsIn.piece {w W : World} {s : Sl} {l : List Int} (h : IntsIn w s l) {b off : Nat} (ha : s.a = some ⟨b, off, none⟩) (hW : Below w.heap.size w W) (p q : Nat) : ∀ j u, (flatI ((l.drop p).take q))[j]? = some u → W.cell? ((⟨b, off + p, none⟩ : Addr).add j) = some u := by
  intro j u hu
  simp only [flatI, List.getElem?_map, Option.map_eq_some_iff] at hu
  obtain ⟨n, hn, rfl⟩ := hu
  rw [List.getElem?_take] at hn
  split at hn
  · rw [List.getElem?_drop] at hn
    obtain ⟨hlt, hn⟩ := List.getElem?_eq_some_iff.1 hn
    obtain ⟨b', off', ha', hb', hc⟩ := h.at_ hlt
    have he := ha.symm.trans ha'
    simp only [Option.some.injEq, Addr.mk.injEq] at he
    obtain ⟨rfl, rfl, _⟩ := he
    rw [add_none, hW.cell (p := ⟨b, _, none⟩) hb', Nat.add_assoc, hc]
    simp [List.getD, hlt, hn]
  · cases hn
theorem IntsIn.head {w W : World} {s : Sl} {l : List Int} (h : IntsIn w s l) {b off : Nat} (ha : s.a = some ⟨b, off, none⟩) (hW : Below w.heap.size w W) (q : Nat) : ∀ j u, (flatI (l.take q))[j]? = some u → W.cell? ((⟨b, off, none⟩ : Addr).add j) = some u := by
  have := h.piece ha hW 0 q
  simpa using this
theorem IntsIn.rest {w W : World} {s : Sl} {l : List Int} (h : IntsIn w s l) {b off : Nat} (ha : s.a = some ⟨b, off, none⟩) (hW : Below w.heap.size w W) (p : Nat) : ∀ j u, (flatI (l.drop p))[j]? = some u → W.cell? ((⟨b, off + p, none⟩ : Addr).add j) = some u := by
  have := h.piece ha hW p (l.drop p).length
  rwa [List.take_length] at this
set_option maxHeartbeats 4000000 in
set_option maxRecDepth 20000 in
theorem insert_yes (a : Option Addr) (len cap : Nat) (l : List Int) (n : Int) (w : World) (h : IntsIn w ⟨a, len, cap⟩ l) (hl : l.length ≤ 2 ^ 40) (hp : posI l n < l.length) (he : l.getD (posI l n) 0 = n) :
    Calls Try.prog 25 #[.slice a len cap, .int .i64 n] w fun r w' => ∃ s' : Sl, r = .returned s'.v ∧ IntsIn w' s' (insI l n) ∧ Cls w w' := by
  have hlen : len = l.length := h.1
  have hle : len ≤ cap := h.2.1
  have hmax : cap ≤ maxLen := h.2.2.1
  unfold maxLen at hmax
  have HI : Hid (insI l n = l) := Lib.hid (by rw [insI_split, if_pos ⟨hp, he⟩])
  have HB : Hid (∀ j, j < posI l n → l.getD j 0 < n) := Lib.hid (fun j hj => posI_lt l n hj)
  have HE := Lib.hid he
  have HLEN := Lib.hid hlen
  have H := Lib.hid h
  obtain ⟨b, off, ha, hb, _⟩ := h.at_ hp
  simp only at ha
  subst ha
  have hpl : posI l n < len := by omega
  clear h he hp
  generalize hpe : posI l n = p at *
  clear hpe hlen
  go_enter Try.func25, Try.ntmps25
  go_wp2_with fail
  go_loopw [5] (fun i wr => ∃ j : Nat, j ≤ p ∧ i = .int .i64 j ∧ wr = w) (fun i _ => len - (intOf i).toNat)
  case atStart => exact ⟨0, Nat.zero_le _, rfl, by trivial⟩
  case round =>
    obtain ⟨j, hj, rfl, rfl⟩ := hrel
    obtain ⟨b', off', ha', hb', q⟩ := H.out.at_ (j := j) (by have := HLEN.out; omega)
    simp only [Option.some.injEq, Addr.mk.injEq] at ha'
    obtain ⟨rfl, rfl, _⟩ := ha'
    have hjl : j < len := by omega
    by_cases hlt : j < p
    · have hv := HB.out j hlt
      generalize l.getD j 0 = v at *
      have d1 : decide (v < n) = true := by simpa using hv
      clear hv
      go_wp2_with fail
      go_roundw
      case rel => exact ⟨j + 1, by omega, by go_num, by trivial⟩
      case measure => simp [intOf]; omega
    · obtain rfl : j = p := by omega
      rw [HE.out] at q
      have d1 : decide (n < n) = false := by simp
      go_wp2_with fail
      go_ret
      exact ⟨⟨some ⟨b, off, none⟩, len, cap⟩, rfl, by rw [HI.out]; exact H.out, Cls.of (Below.refl _ _)⟩
set_option maxHeartbeats 4000000 in
set_option maxRecDepth 20000 in
theorem insert_no (b off len cap : Nat) (l : List Int) (n : Int) (w : World) (h : IntsIn w ⟨some ⟨b, off, none⟩, len, cap⟩ l) (hl : l.length ≤ 2 ^ 40) (hp : ¬ (posI l n < l.length ∧ l.getD (posI l n) 0 = n)) (h0 : 0 < l.length) :
    Calls Try.prog 25 #[.slice (some ⟨b, off, none⟩) len cap, .int .i64 n] w fun r w' => ∃ s' : Sl, r = .returned s'.v ∧ IntsIn w' s' (insI l n) ∧ Cls w w' := by
  have hlen : len = l.length := h.1
  have hle : len ≤ cap := h.2.1
  have hmax : cap ≤ maxLen := h.2.2.1
  unfold maxLen at hmax
  obtain ⟨i0, hi, hz0, hz1, hz2⟩ := info_parts infoI
  have HI : Hid (insI l n = l.take (posI l n) ++ n :: l.drop (posI l n)) := Lib.hid (by rw [insI_split, if_neg hp])
  have HB : Hid (∀ j, j < posI l n → l.getD j 0 < n) := Lib.hid (fun j hj => posI_lt l n hj)
  have HC : Hid (posI l n < l.length → l.getD (posI l n) 0 ≠ n ∧ n ≤ l.getD (posI l n) 0) := Lib.hid (fun hj => ⟨fun he => hp ⟨hj, he⟩, posI_at l n hj⟩)
  have HP := Lib.hid (posI_le l n)
  have HLEN := Lib.hid hlen
  have H := Lib.hid h
  have hb : b < w.heap.size := by
    obtain ⟨b', off', ha, hb, _⟩ := h.at_ h0
    simp only [Option.some.injEq, Addr.mk.injEq] at ha
    obtain ⟨rfl, rfl, _⟩ := ha
    exact hb
  have hpl : posI l n ≤ len := by have := HP.out; omega
  have hl2 : len ≤ 2 ^ 40 := by omega
  clear h hp
  generalize hpe : posI l n = p at *
  have HLD : Hid ((l.drop p).length = len - p) := Lib.hid (by rw [List.length_drop, ← hlen])
  have HLT : Hid ((l.take p).length = p) := Lib.hid (by rw [List.length_take]; omega)
  clear hpe hlen hl h0
  go_enter Try.func25, Try.ntmps25
  go_wp2_with fail
  go_loopw [5] (fun i wr => ∃ j : Nat, j ≤ p ∧ i = .int .i64 j ∧ wr = w) (fun i _ => len - (intOf i).toNat)
  case atStart => exact ⟨0, Nat.zero_le _, rfl, by trivial⟩
  case round =>
    obtain ⟨j, hj, rfl, hwr⟩ := hrel
    subst hwr
    by_cases hlt : j < p
    · obtain ⟨b', off', ha', hb', q⟩ := H.out.at_ (j := j) (by have := HLEN.out; omega)
      simp only [Option.some.injEq, Addr.mk.injEq] at ha'
      obtain ⟨rfl, rfl, _⟩ := ha'
      have hjl : j < len := by omega
      have hv := HB.out j hlt
      generalize l.getD j 0 = v at *
      have d1 : decide (v < n) = true := by simpa using hv
      clear hv
      go_wp2_with fail
      go_roundw
      case rel => exact ⟨j + 1, by omega, by go_num, by trivial⟩
      case measure => simp [intOf]; omega
    · obtain rfl : j = p := by omega
      by_cases hpl2 : j < len
      · obtain ⟨b', off', ha', hb', q⟩ := H.out.at_ (j := j) (by have := HLEN.out; omega)
        simp only [Option.some.injEq, Addr.mk.injEq] at ha'
        obtain ⟨rfl, rfl, _⟩ := ha'
        obtain ⟨g1, g2⟩ := HC.out (by have := HLEN.out; omega)
        generalize l.getD j 0 = v at *
        have d1 : decide (v < n) = false := by simp; omega
        have d2 : (v == n) = false := by simpa using g1
        clear g1 g2
        have hwl : wr.heap.size ≤ wr.heap.size := Nat.le_refl _
        have tok1 : True := trivial
        have tok2 : True := trivial
        have tok3 : True := trivial
        go_wp2_with (first | (at_builtin; have _t := tok1; refine wpList_append_own_at _ rfl _ _ 28 rfl wr.heap.size 3 i0 (.int .i64 0) 1 8 Try.underlying28 hi hz0 hz1 hz2 rfl (by decide) (.slice none 0 0) 0 [] rfl (World.ownsRow_nil _ _ _ 1) ⟨b, off, none⟩ j cap (flatI (l.take j)) rfl (by rw [flatI_length, HLT.out]; omega) (H.out.head rfl (Below.refl _ _) j) (flatI_one _) (by unfold maxLen; omega) (by omega) (Nat.le_refl _) ?_; intro v1 w1 hown1 hg1 _ _; have HO1 : Hid (w1.ownsRow wr.heap.size 3 1 v1 (l.take j).length (flatI (l.take j))) := Lib.hid (by have h := hown1; rw [Nat.zero_add, List.nil_append] at h; rw [HLT.out]; exact h); have HB1 : Hid (Below wr.heap.size wr w1) := Lib.hid (Below.grown (w := wr) (Below.refl _ _) hg1 (Nat.le_refl _) (fun k hk => absurd hk (by simp [Value.ownBlock]))); have s1 := HB1.out.size; clear hown1 hg1 tok1 _t) | (at_builtin; have _t := tok2; refine wpList_append_own_at _ rfl _ _ 28 rfl wr.heap.size 3 i0 (.int .i64 0) 1 8 Try.underlying28 hi hz0 hz1 hz2 rfl (by decide) v1 (l.take j).length (flatI (l.take j)) rfl (own_later' HO1.out (by repeat first | with_reducible exact Below.refl _ _ | with_reducible refine Below.setCell ?_ (by first | omega | (simp; done) | (simp; omega)) _ | with_reducible refine Below.alloc ?_ (by first | omega | (simp; done) | (simp; omega)) _ | with_reducible refine Below.drew ?_ | with_reducible refine Ext.on _ ?_ (by first | omega | (simp; done) | (simp; omega)))) ⟨w1.heap.size, 0, none⟩ 1 1 [.int .i64 n] rfl rfl (cells_new' _ _ _) (flatI_one [n]) (by rw [HLT.out]; unfold maxLen; omega) (by rw [HLT.out]; omega) (by simp; omega) ?_; intro v2 w2 hown2 hg2 _ _; have HO2 := Lib.hid hown2; have HB2 : Hid (Below wr.heap.size wr w2) := Lib.hid (Below.grown (w := w1.alloc _) (HB1.out.alloc (by omega) _) hg2 (by simp; omega) (fun k hk => (HO1.out.lt k hk).1)); have s2 := HB2.out.size; clear hown2 hg2 tok2 _t) | (at_builtin; have _t := tok3; refine wpList_append_own_at _ rfl _ _ 28 rfl wr.heap.size 3 i0 (.int .i64 0) 1 8 Try.underlying28 hi hz0 hz1 hz2 rfl (by decide) v2 _ _ rfl HO2.out ⟨b, off + j, none⟩ (len - j) (cap - j) (flatI (l.drop j)) rfl (by rw [flatI_length, HLD.out]; omega) (H.out.rest rfl HB2.out j) (flatI_one _) (by rw [HLT.out]; unfold maxLen; omega) (by rw [HLT.out]; omega) (by omega) ?_; intro v3 w3 hown3 hg3 _ _; have HB3 : Hid (Below wr.heap.size wr w3) := Lib.hid (Below.grown (w := w2) HB2.out hg3 (by omega) (fun k hk => (HO2.out.lt k hk).1)); have HO3 : Hid (w3.ownsRow wr.heap.size 3 1 v3 (l.take j ++ n :: l.drop j).length (flatI (l.take j ++ n :: l.drop j))) := Lib.hid (by have h := hown3; rw [List.append_assoc] at h; rw [flatI_append, List.length_append, List.length_cons, HLD.out, show (l.take j).length + (len - j + 1) = (l.take j).length + 1 + (len - j) by omega]; exact h); clear hown3 hg3 tok3 _t))
        obtain ⟨s', hs', hin⟩ := IntsIn.of_own HO3.out
        subst hs'
        have HIN := Lib.hid hin
        clear hin
        go_ret
        exact ⟨s', rfl, by rw [HI.out]; exact HIN.out, Cls.of HB3.out⟩
      · have hpl3 : len = j := by omega
        subst hpl3
        rcases Nat.eq_or_lt_of_le hle with hcl | hcl
        · subst hcl
          have hcc : len = len := rfl
          have hwl : wr.heap.size ≤ wr.heap.size := Nat.le_refl _
          have tok1 : True := trivial
          have tok2 : True := trivial
          have tok3 : True := trivial
          go_wp2_with (first | (at_builtin; have _t := tok1; refine wpList_append_own_at _ rfl _ _ 28 rfl wr.heap.size 3 i0 (.int .i64 0) 1 8 Try.underlying28 hi hz0 hz1 hz2 rfl (by decide) (.slice none 0 0) 0 [] rfl (World.ownsRow_nil _ _ _ 1) ⟨b, off, none⟩ len _ (flatI (l.take len)) rfl (by rw [flatI_length, HLT.out]; omega) (H.out.head rfl (Below.refl _ _) len) (flatI_one _) (by unfold maxLen; omega) (by omega) (Nat.le_refl _) ?_; intro v1 w1 hown1 hg1 _ _; have HO1 : Hid (w1.ownsRow wr.heap.size 3 1 v1 (l.take len).length (flatI (l.take len))) := Lib.hid (by have h := hown1; rw [Nat.zero_add, List.nil_append] at h; rw [HLT.out]; exact h); have HB1 : Hid (Below wr.heap.size wr w1) := Lib.hid (Below.grown (w := wr) (Below.refl _ _) hg1 (Nat.le_refl _) (fun k hk => absurd hk (by simp [Value.ownBlock]))); have s1 := HB1.out.size; clear hown1 hg1 tok1 _t) | (at_builtin; have _t := tok2; refine wpList_append_own_at _ rfl _ _ 28 rfl wr.heap.size 3 i0 (.int .i64 0) 1 8 Try.underlying28 hi hz0 hz1 hz2 rfl (by decide) v1 (l.take len).length (flatI (l.take len)) rfl (own_later' HO1.out (by repeat first | with_reducible exact Below.refl _ _ | with_reducible refine Below.setCell ?_ (by first | omega | (simp; done) | (simp; omega)) _ | with_reducible refine Below.alloc ?_ (by first | omega | (simp; done) | (simp; omega)) _ | with_reducible refine Below.drew ?_ | with_reducible refine Ext.on _ ?_ (by first | omega | (simp; done) | (simp; omega)))) ⟨w1.heap.size, 0, none⟩ 1 1 [.int .i64 n] rfl rfl (cells_new' _ _ _) (flatI_one [n]) (by rw [HLT.out]; unfold maxLen; omega) (by rw [HLT.out]; omega) (by simp; omega) ?_; intro v2 w2 hown2 hg2 _ _; have HO2 := Lib.hid hown2; have HB2 : Hid (Below wr.heap.size wr w2) := Lib.hid (Below.grown (w := w1.alloc _) (HB1.out.alloc (by omega) _) hg2 (by simp; omega) (fun k hk => (HO1.out.lt k hk).1)); have s2 := HB2.out.size; clear hown2 hg2 tok2 _t) | (at_builtin; have _t := tok3; refine wpList_append_own_at _ rfl _ _ 28 rfl wr.heap.size 3 i0 (.int .i64 0) 1 8 Try.underlying28 hi hz0 hz1 hz2 rfl (by decide) v2 _ _ rfl HO2.out _ 0 _ [] rfl rfl (fun _ _ h => by cases h) (fun _ h => by cases h) (by rw [HLT.out]; unfold maxLen; omega) (by rw [HLT.out]; omega) (by omega) ?_; intro v3 w3 hown3 hg3 _ _; have HB3 : Hid (Below wr.heap.size wr w3) := Lib.hid (Below.grown (w := w2) HB2.out hg3 (by omega) (fun k hk => (HO2.out.lt k hk).1)); have HO3 : Hid (w3.ownsRow wr.heap.size 3 1 v3 (l.take len ++ n :: l.drop len).length (flatI (l.take len ++ n :: l.drop len))) := Lib.hid (by have h := hown3; have hd : l.drop len = [] := List.eq_nil_of_length_eq_zero (by rw [HLD.out]; omega); rw [hd, flatI_append, List.length_append]; rw [List.append_nil] at h; exact h); clear hown3 hg3 tok3 _t))
          obtain ⟨s', hs', hin⟩ := IntsIn.of_own HO3.out
          subst hs'
          have HIN := Lib.hid hin
          clear hin
          go_ret
          exact ⟨s', rfl, by rw [HI.out]; exact HIN.out, Cls.of HB3.out⟩
        · have hcc : ¬ cap = len := by omega
          have hwl : wr.heap.size ≤ wr.heap.size := Nat.le_refl _
          have tok1 : True := trivial
          have tok2 : True := trivial
          have tok3 : True := trivial
          go_wp2_with (first | (at_builtin; have _t := tok1; refine wpList_append_own_at _ rfl _ _ 28 rfl wr.heap.size 3 i0 (.int .i64 0) 1 8 Try.underlying28 hi hz0 hz1 hz2 rfl (by decide) (.slice none 0 0) 0 [] rfl (World.ownsRow_nil _ _ _ 1) ⟨b, off, none⟩ len _ (flatI (l.take len)) rfl (by rw [flatI_length, HLT.out]; omega) (H.out.head rfl (Below.refl _ _) len) (flatI_one _) (by unfold maxLen; omega) (by omega) (Nat.le_refl _) ?_; intro v1 w1 hown1 hg1 _ _; have HO1 : Hid (w1.ownsRow wr.heap.size 3 1 v1 (l.take len).length (flatI (l.take len))) := Lib.hid (by have h := hown1; rw [Nat.zero_add, List.nil_append] at h; rw [HLT.out]; exact h); have HB1 : Hid (Below wr.heap.size wr w1) := Lib.hid (Below.grown (w := wr) (Below.refl _ _) hg1 (Nat.le_refl _) (fun k hk => absurd hk (by simp [Value.ownBlock]))); have s1 := HB1.out.size; clear hown1 hg1 tok1 _t) | (at_builtin; have _t := tok2; refine wpList_append_own_at _ rfl _ _ 28 rfl wr.heap.size 3 i0 (.int .i64 0) 1 8 Try.underlying28 hi hz0 hz1 hz2 rfl (by decide) v1 (l.take len).length (flatI (l.take len)) rfl (own_later' HO1.out (by repeat first | with_reducible exact Below.refl _ _ | with_reducible refine Below.setCell ?_ (by first | omega | (simp; done) | (simp; omega)) _ | with_reducible refine Below.alloc ?_ (by first | omega | (simp; done) | (simp; omega)) _ | with_reducible refine Below.drew ?_ | with_reducible refine Ext.on _ ?_ (by first | omega | (simp; done) | (simp; omega)))) ⟨w1.heap.size, 0, none⟩ 1 1 [.int .i64 n] rfl rfl (cells_new' _ _ _) (flatI_one [n]) (by rw [HLT.out]; unfold maxLen; omega) (by rw [HLT.out]; omega) (by simp; omega) ?_; intro v2 w2 hown2 hg2 _ _; have HO2 := Lib.hid hown2; have HB2 : Hid (Below wr.heap.size wr w2) := Lib.hid (Below.grown (w := w1.alloc _) (HB1.out.alloc (by omega) _) hg2 (by simp; omega) (fun k hk => (HO1.out.lt k hk).1)); have s2 := HB2.out.size; clear hown2 hg2 tok2 _t) | (at_builtin; have _t := tok3; refine wpList_append_own_at _ rfl _ _ 28 rfl wr.heap.size 3 i0 (.int .i64 0) 1 8 Try.underlying28 hi hz0 hz1 hz2 rfl (by decide) v2 _ _ rfl HO2.out _ 0 _ [] rfl rfl (fun _ _ h => by cases h) (fun _ h => by cases h) (by rw [HLT.out]; unfold maxLen; omega) (by rw [HLT.out]; omega) (by omega) ?_; intro v3 w3 hown3 hg3 _ _; have HB3 : Hid (Below wr.heap.size wr w3) := Lib.hid (Below.grown (w := w2) HB2.out hg3 (by omega) (fun k hk => (HO2.out.lt k hk).1)); have HO3 : Hid (w3.ownsRow wr.heap.size 3 1 v3 (l.take len ++ n :: l.drop len).length (flatI (l.take len ++ n :: l.drop len))) := Lib.hid (by have h := hown3; have hd : l.drop len = [] := List.eq_nil_of_length_eq_zero (by rw [HLD.out]; omega); rw [hd, flatI_append, List.length_append]; rw [List.append_nil] at h; exact h); clear hown3 hg3 tok3 _t))
          obtain ⟨s', hs', hin⟩ := IntsIn.of_own HO3.out
          subst hs'
          have HIN := Lib.hid hin
          clear hin
          go_ret
          exact ⟨s', rfl, by rw [HI.out]; exact HIN.out, Cls.of HB3.out⟩
set_option maxHeartbeats 4000000 in
set_option maxRecDepth 20000 in
theorem insert_nil (a : Option Addr) (cap : Nat) (n : Int) (w : World) (h0 : a = none → cap = 0) (hmax : cap ≤ maxLen) :
    Calls Try.prog 25 #[.slice a 0 cap, .int .i64 n] w fun r w' => ∃ s' : Sl, r = .returned s'.v ∧ IntsIn w' s' [n] ∧ Cls w w' := by
  unfold maxLen at hmax
  obtain ⟨i0, hi, hz0, hz1, hz2⟩ := info_parts infoI
  go_enter Try.func25, Try.ntmps25
  go_wp2_with fail
  go_loopw [5] (fun i wr => i = .int .i64 0 ∧ wr = w) (fun i _ => 0)
  case atStart => exact ⟨rfl, by trivial⟩
  case round =>
    obtain ⟨rfl, hwr⟩ := hrel
    subst hwr
    cases a with
    | none =>
      obtain rfl := h0 rfl
      clear h0
      have tok1 : True := trivial
      have tok2 : True := trivial
      have tok3 : True := trivial
      go_wp2_with (first | (at_builtin; have _t := tok1; refine wpList_append_own_none rfl _ _ 28 rfl wr.heap.size 3 i0 1 Try.underlying28 hi (.slice none 0 0) 0 [] rfl (World.ownsRow_nil _ _ _ 1) rfl ?_; have HB1 : Hid (Below wr.heap.size wr wr) := Lib.hid (Below.refl _ _); have s1 := HB1.out.size; clear tok1 _t) | (at_builtin; have _t := tok2; refine wpList_append_own_at _ rfl _ _ 28 rfl wr.heap.size 3 i0 (.int .i64 0) 1 8 Try.underlying28 hi hz0 hz1 hz2 rfl (by decide) (.slice none 0 0) 0 [] rfl (World.ownsRow_nil _ _ _ 1) ⟨wr.heap.size, 0, none⟩ 1 1 [.int .i64 n] rfl rfl (cells_new' _ _ _) (flatI_one [n]) (by unfold maxLen; omega) (by omega) (by first | (simp; done) | (simp; omega)) ?_; intro v2 w2 hown2 hg2 _ _; have HO2 : Hid (w2.ownsRow wr.heap.size 3 1 v2 [n].length (flatI [n])) := Lib.hid hown2; have HB2 : Hid (Below wr.heap.size wr w2) := Lib.hid (Below.grown (w := wr.alloc _) (HB1.out.alloc (by omega) _) hg2 (by first | (simp; done) | (simp; omega)) (fun k hk => absurd hk (by simp [Value.ownBlock]))); have s2 := HB2.out.size; clear hown2 hg2; clear tok2 _t) | (at_builtin; have _t := tok3; refine wpList_append_own_none rfl _ _ 28 rfl wr.heap.size 3 i0 1 Try.underlying28 hi v2 _ _ rfl HO2.out rfl ?_; have HB3 := HB2; have HO3 := HO2; obtain ⟨v3, hv3⟩ : ∃ v3, v3 = v2 := ⟨_, rfl⟩; obtain ⟨w3, hw3⟩ : ∃ w3, w3 = w2 := ⟨_, rfl⟩; rw [← hv3] at HO3; rw [← hw3] at HO3 HB3; clear tok3 _t))
      obtain ⟨s', hs', hin⟩ := IntsIn.of_own HO3.out
      subst hv3 hw3
      subst hs'
      have HIN := Lib.hid hin
      clear hin
      go_ret
      exact ⟨s', rfl, HIN.out, Cls.of HB3.out⟩
    | some ad =>
      clear h0
      by_cases hc : cap = 0
      · subst hc
        have tok1 : True := trivial
        have tok2 : True := trivial
        have tok3 : True := trivial
        go_wp2_with (first | (at_builtin; have _t := tok1; refine wpList_append_own_at _ rfl _ _ 28 rfl wr.heap.size 3 i0 (.int .i64 0) 1 8 Try.underlying28 hi hz0 hz1 hz2 rfl (by decide) (.slice none 0 0) 0 [] rfl (World.ownsRow_nil _ _ _ 1) _ 0 _ [] rfl rfl (fun _ _ h => by cases h) (fun _ h => by cases h) (by unfold maxLen; omega) (by omega) (Nat.le_refl _) ?_; intro v1 w1 hown1 hg1 hn1 _; obtain rfl := hn1.2 ⟨rfl, rfl⟩; have HB1 : Hid (Below wr.heap.size wr w1) := Lib.hid (Below.grown (w := wr) (Below.refl _ _) hg1 (Nat.le_refl _) (fun k hk => absurd hk (by simp [Value.ownBlock]))); clear hown1 hg1 hn1; have s1 := HB1.out.size; clear tok1 _t) | (at_builtin; have _t := tok2; refine wpList_append_own_at _ rfl _ _ 28 rfl wr.heap.size 3 i0 (.int .i64 0) 1 8 Try.underlying28 hi hz0 hz1 hz2 rfl (by decide) (.slice none 0 0) 0 [] rfl (World.ownsRow_nil _ _ _ 1) ⟨w1.heap.size, 0, none⟩ 1 1 [.int .i64 n] rfl rfl (cells_new' _ _ _) (flatI_one [n]) (by unfold maxLen; omega) (by omega) (by first | (simp; done) | (simp; omega)) ?_; intro v2 w2 hown2 hg2 _ _; have HO2 : Hid (w2.ownsRow wr.heap.size 3 1 v2 [n].length (flatI [n])) := Lib.hid hown2; have HB2 : Hid (Below wr.heap.size wr w2) := Lib.hid (Below.grown (w := w1.alloc _) (HB1.out.alloc (by omega) _) hg2 (by first | (simp; done) | (simp; omega)) (fun k hk => absurd hk (by simp [Value.ownBlock]))); have s2 := HB2.out.size; clear hown2 hg2; clear tok2 _t) | (at_builtin; have _t := tok3; refine wpList_append_own_at _ rfl _ _ 28 rfl wr.heap.size 3 i0 (.int .i64 0) 1 8 Try.underlying28 hi hz0 hz1 hz2 rfl (by decide) v2 _ _ rfl HO2.out _ 0 _ [] rfl rfl (fun _ _ h => by cases h) (fun _ h => by cases h) (by show 1 + 0 ≤ maxLen; unfold maxLen; omega) (by show (1 + 0) * 8 ≤ _; omega) (by omega) ?_; intro v3 w3 hown3 hg3 _ _; have HO3 : Hid (w3.ownsRow wr.heap.size 3 1 v3 [n].length (flatI [n])) := Lib.hid (by have h := hown3; rw [List.append_nil] at h; exact h); have HB3 : Hid (Below wr.heap.size wr w3) := Lib.hid (Below.grown (w := w2) HB2.out hg3 (by omega) (fun k hk => (HO2.out.lt k hk).1)); clear hown3 hg3; clear tok3 _t))
        obtain ⟨s', hs', hin⟩ := IntsIn.of_own HO3.out

        subst hs'
        have HIN := Lib.hid hin
        clear hin
        go_ret
        exact ⟨s', rfl, HIN.out, Cls.of HB3.out⟩
      · have hcc : ¬ cap = 0 := hc
        have tok1 : True := trivial
        have tok2 : True := trivial
        have tok3 : True := trivial
        go_wp2_with (first | (at_builtin; have _t := tok1; refine wpList_append_own_at _ rfl _ _ 28 rfl wr.heap.size 3 i0 (.int .i64 0) 1 8 Try.underlying28 hi hz0 hz1 hz2 rfl (by decide) (.slice none 0 0) 0 [] rfl (World.ownsRow_nil _ _ _ 1) _ 0 _ [] rfl rfl (fun _ _ h => by cases h) (fun _ h => by cases h) (by unfold maxLen; omega) (by omega) (Nat.le_refl _) ?_; intro v1 w1 hown1 hg1 hn1 _; obtain rfl := hn1.2 ⟨rfl, rfl⟩; have HB1 : Hid (Below wr.heap.size wr w1) := Lib.hid (Below.grown (w := wr) (Below.refl _ _) hg1 (Nat.le_refl _) (fun k hk => absurd hk (by simp [Value.ownBlock]))); clear hown1 hg1 hn1; have s1 := HB1.out.size; clear tok1 _t) | (at_builtin; have _t := tok2; refine wpList_append_own_at _ rfl _ _ 28 rfl wr.heap.size 3 i0 (.int .i64 0) 1 8 Try.underlying28 hi hz0 hz1 hz2 rfl (by decide) (.slice none 0 0) 0 [] rfl (World.ownsRow_nil _ _ _ 1) ⟨w1.heap.size, 0, none⟩ 1 1 [.int .i64 n] rfl rfl (cells_new' _ _ _) (flatI_one [n]) (by unfold maxLen; omega) (by omega) (by first | (simp; done) | (simp; omega)) ?_; intro v2 w2 hown2 hg2 _ _; have HO2 : Hid (w2.ownsRow wr.heap.size 3 1 v2 [n].length (flatI [n])) := Lib.hid hown2; have HB2 : Hid (Below wr.heap.size wr w2) := Lib.hid (Below.grown (w := w1.alloc _) (HB1.out.alloc (by omega) _) hg2 (by first | (simp; done) | (simp; omega)) (fun k hk => absurd hk (by simp [Value.ownBlock]))); have s2 := HB2.out.size; clear hown2 hg2; clear tok2 _t) | (at_builtin; have _t := tok3; refine wpList_append_own_at _ rfl _ _ 28 rfl wr.heap.size 3 i0 (.int .i64 0) 1 8 Try.underlying28 hi hz0 hz1 hz2 rfl (by decide) v2 _ _ rfl HO2.out _ 0 _ [] rfl rfl (fun _ _ h => by cases h) (fun _ h => by cases h) (by show 1 + 0 ≤ maxLen; unfold maxLen; omega) (by show (1 + 0) * 8 ≤ _; omega) (by omega) ?_; intro v3 w3 hown3 hg3 _ _; have HO3 : Hid (w3.ownsRow wr.heap.size 3 1 v3 [n].length (flatI [n])) := Lib.hid (by have h := hown3; rw [List.append_nil] at h; exact h); have HB3 : Hid (Below wr.heap.size wr w3) := Lib.hid (Below.grown (w := w2) HB2.out hg3 (by omega) (fun k hk => (HO2.out.lt k hk).1)); clear hown3 hg3; clear tok3 _t))
        obtain ⟨s', hs', hin⟩ := IntsIn.of_own HO3.out

        subst hs'
        have HIN := Lib.hid hin
        clear hin
        go_ret
        exact ⟨s', rfl, HIN.out, Cls.of HB3.out⟩
theorem insert_calls (s : Sl) (l : List Int) (n : Int) (w : World) (h : IntsIn w s l) (hl : l.length ≤ 2 ^ 40) :
    Calls Try.prog 25 #[.slice s.a s.len s.cap, .int .i64 n] w fun r w' => ∃ s' : Sl, r = .returned s'.v ∧ IntsIn w' s' (insI l n) ∧ Cls w w' := by
  by_cases h0 : 0 < l.length
  · obtain ⟨b, off, ha, _, _⟩ := h.at_ h0
    obtain ⟨a, len, cap⟩ := s
    simp only at ha
    subst ha
    by_cases hp : posI l n < l.length ∧ l.getD (posI l n) 0 = n
    · exact insert_yes _ len cap l n w h hl hp.1 hp.2
    · exact insert_no b off len cap l n w h hl hp h0
  · obtain rfl : l = [] := List.eq_nil_of_length_eq_zero (by omega)
    obtain ⟨a, len, cap⟩ := s
    obtain rfl : len = 0 := h.1
    exact insert_nil a cap n w (fun ha => (h.2.2.2.1 ha).2) h.2.2.1
end Go.Proofs.Ytonnbmiallammaa
