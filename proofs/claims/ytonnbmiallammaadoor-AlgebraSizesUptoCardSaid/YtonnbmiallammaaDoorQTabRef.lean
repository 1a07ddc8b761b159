/-
  The tables of a query, as the reference gathers them: what its insert gives.
-/
import Derived.Test.YtonnbmiallammaaDoorQWords
import Derived.Test.YtonnbmiallammaaDoorPlain
import Derived.Sort.EncStr
import Derived.Lib.Strings
import Derived.Test.YtonnbmiallammaaDoorTab
import Derived.Maps.AppendAt
import Derived.Laws.AppendOwnNone
import Derived.OwnWalk
import Derived.Laws.Entries
import Derived.BigQuiet
set_option linter.unusedVariables false
namespace Go.Proofs.YtonnbmiallammaaDoor
open Go Go.RowKit Go.Deep
def flatS (l : List Bs) : List Value := l.map encStr
theorem flatS_append (l m : List Bs) : flatS (l ++ m) = flatS l ++ flatS m := by simp [flatS]
theorem flatS_length (l : List Bs) : (flatS l).length = l.length := by simp [flatS]
theorem flatS_one (l : List Bs) : ∀ u ∈ flatS l, u.oneCell' = true := by
  intro u h
  obtain ⟨n, _, rfl⟩ := List.mem_map.1 h
  rfl
theorem infoS : (Tryd.prog.info? 9).map (fun i => (i.zero, i.size, i.bytes)) = some (some (.string ⟨#[]⟩), 1, 16) := by kernel_rfl
theorem add_none (b off j : Nat) : (⟨b, off, none⟩ : Addr).add j = ⟨b, off + j, none⟩ := by unfold Addr.add; split <;> simp_all
theorem cells_new' (w : World) (l : List Value) (t : TypeId) : ∀ j u, l[j]? = some u → (w.alloc (.cells l.toArray t)).cell? ((⟨w.heap.size, 0, none⟩ : Addr).add j) = some u := by
  intro j u h
  rw [add_none, Nat.zero_add, cell_of_row _ _ _ l.toArray t (0, 0) (heap_alloc_new w _)]
  simpa using h
theorem own_later' {w w' : World} {base size n : Nat} {e : TypeId} {v : Value} {xs : List Value} (h : w.ownsRow base e size v n xs) (hb : Below w.heap.size w w') : w'.ownsRow base e size v n xs := by
  refine ⟨h.1, h.2.imp id ?_⟩
  rintro ⟨g, cap, cur, hv, hg, hh, rest⟩
  exact ⟨g, cap, cur, hv, hg, (hb.block g (Array.getElem?_eq_some_iff.1 hh).1).trans hh, rest⟩
def sC (l : List Bs) (i : Nat) : List Value := [encStr (l.getD i [])]
/-- The slice holds these numbers. -/
def StrsIn (w : World) (s : Sl) (l : List Bs) : Prop := s.len = l.length ∧ SlAt w 1 s (sC l)
theorem StrsIn.later {w w' : World} {s : Sl} {l : List Bs} (h : StrsIn w s l) (hb : Below w.heap.size w w') : StrsIn w' s l := ⟨h.1, h.2.later hb⟩
theorem StrsIn.nil {w : World} : StrsIn w Sl.z [] := ⟨rfl, Nat.le_refl _, Nat.zero_le _, fun _ => ⟨rfl, rfl⟩, fun i hi => absurd hi (Nat.not_lt_zero _)⟩
theorem StrsIn.at_ {w : World} {s : Sl} {l : List Bs} (h : StrsIn w s l) {j : Nat} (hj : j < l.length) : ∃ b off, s.a = some ⟨b, off, none⟩ ∧ b < w.heap.size ∧ w.cell? ⟨b, off + j, none⟩ = some (encStr (l.getD j [])) := by
  obtain ⟨b, off, ha, hb, hc⟩ := h.2.2.2.2 j (by rw [h.1]; exact hj)
  have := hc 0 (by omega)
  rw [Nat.mul_one, Nat.add_zero] at this
  exact ⟨b, off, ha, hb, this⟩
/-- A row of numbers that a call made, as a slice. -/
theorem StrsIn.of_own {w : World} {base : Nat} {v : Value} {l : List Bs} (h : w.ownsRow base 9 1 v l.length (flatS l)) : ∃ s : Sl, v = s.v ∧ StrsIn w s l := by
  rcases h.2 with ⟨rfl, h0⟩ | ⟨g, cap, cur, rfl, hb, hh, hn, hc, hr, ht⟩
  · refine ⟨Sl.z, rfl, h0.symm, Nat.le_refl _, Nat.zero_le _, fun _ => ⟨rfl, rfl⟩, fun i hi => absurd hi (Nat.not_lt_zero _)⟩
  · refine ⟨⟨some ⟨g, 0, none⟩, l.length, cap⟩, rfl, rfl, ⟨hn, hc, (fun h => by cases h), fun i hi => ⟨g, 0, rfl, (Array.getElem?_eq_some_iff.1 hh).1, fun j hj => ?_⟩⟩⟩
    have hi2 : i < l.length := hi
    have hcell := World.ownsRow.cells h (g := g) rfl
    have c0 := hcell i (encStr (l.getD i [])) (by simp [flatS, List.getD, hi2])
    rw [add_none] at c0
    obtain rfl : j = 0 := by omega
    rw [Nat.mul_one, Nat.add_zero, c0]; rfl
/-- What lies in a piece of the slice. -/
theorem StrsIn.piece {w W : World} {s : Sl} {l : List Bs} (h : StrsIn w s l) {b off : Nat} (ha : s.a = some ⟨b, off, none⟩) (hW : Below w.heap.size w W) (p q : Nat) : ∀ j u, (flatS ((l.drop p).take q))[j]? = some u → W.cell? ((⟨b, off + p, none⟩ : Addr).add j) = some u := by
  intro j u hu
  simp only [flatS, List.getElem?_map, Option.map_eq_some_iff] at hu
  obtain ⟨n, hn, rfl⟩ := hu
  rw [List.getElem?_take] at hn
  split at hn
  · rw [List.getElem?_drop] at hn
    obtain ⟨hlt, hn⟩ := List.getElem?_eq_some_iff.1 hn
    obtain ⟨b', off', ha', hb', hc⟩ := h.at_ hlt
    have he := ha.symm.trans ha'
    simp only [Option.some.injEq, Addr.mk.injEq] at he
    obtain ⟨rfl, rfl, _⟩ := he
    rw [add_none, hW.cell (p := ⟨b, _, none⟩) hb', Nat.add_assoc, hc]
    simp [List.getD, hlt, hn]
  · cases hn
theorem StrsIn.head {w W : World} {s : Sl} {l : List Bs} (h : StrsIn w s l) {b off : Nat} (ha : s.a = some ⟨b, off, none⟩) (hW : Below w.heap.size w W) (q : Nat) : ∀ j u, (flatS (l.take q))[j]? = some u → W.cell? ((⟨b, off, none⟩ : Addr).add j) = some u := by
  have := h.piece ha hW 0 q
  simpa using this
theorem StrsIn.rest {w W : World} {s : Sl} {l : List Bs} (h : StrsIn w s l) {b off : Nat} (ha : s.a = some ⟨b, off, none⟩) (hW : Below w.heap.size w W) (p : Nat) : ∀ j u, (flatS (l.drop p))[j]? = some u → W.cell? ((⟨b, off + p, none⟩ : Addr).add j) = some u := by
  have := h.piece ha hW p (l.drop p).length
  rwa [List.take_length] at this
theorem lessS {v n : Bs} {vb nb : ByteArray} (hv : vb = ⟨v.toArray⟩) (hn : nb = ⟨n.toArray⟩) : Op.bytesLess vb.toList nb.toList = decide (v < n) := by
  subst hv hn
  rw [less_eq, Lib.toList_data, Lib.toList_data]
theorem eqS {v n : Bs} {vb nb : ByteArray} (hv : vb = ⟨v.toArray⟩) (hn : nb = ⟨n.toArray⟩) : (vb.toList == nb.toList) = (v == n) := by
  subst hv hn
  rw [Lib.toList_data, Lib.toList_data]
set_option maxHeartbeats 4000000 in
set_option maxRecDepth 20000 in
theorem insertS_yes (a : Option Addr) (len cap : Nat) (l : List Bs) (n : Bs) (nb : ByteArray) (hnb : nb = ⟨n.toArray⟩) (w : World) (h : StrsIn w ⟨a, len, cap⟩ l) (hl : l.length ≤ 2 ^ 40) (hp : posS l n < l.length) (he : l.getD (posS l n) [] = n) :
    Calls Tryd.prog 65 #[.slice a len cap, .string nb] w fun r w' => ∃ s' : Sl, r = .returned s'.v ∧ StrsIn w' s' (insS l n) ∧ Cls w w' := by
  have hlen : len = l.length := h.1
  have hle : len ≤ cap := h.2.1
  have hmax : cap ≤ maxLen := h.2.2.1
  unfold maxLen at hmax
  have HNB : Hid (encStr n = .string nb) := Lib.hid (by rw [hnb])
  have HNB0 := Lib.hid hnb
  clear hnb
  have HI : Hid (insS l n = l) := Lib.hid (by rw [insS_split, if_pos ⟨hp, he⟩])
  have HB : Hid (∀ j, j < posS l n → l.getD j [] < n) := Lib.hid (fun j hj => posS_lt l n hj)
  have HE := Lib.hid he
  have HLEN := Lib.hid hlen
  have H := Lib.hid h
  obtain ⟨b, off, ha, hb, _⟩ := h.at_ hp
  simp only at ha
  subst ha
  have hpl : posS l n < len := by omega
  clear h he hp
  generalize hpe : posS l n = p at *
  clear hpe hlen
  go_enter Tryd.func65, Tryd.ntmps65
  go_wp2_with fail
  go_loopw [5] (fun i wr => ∃ j : Nat, j ≤ p ∧ i = .int .i64 j ∧ wr = w) (fun i _ => len - (intOf i).toNat)
  case atStart => exact ⟨0, Nat.zero_le _, rfl, by trivial⟩
  case round =>
    obtain ⟨j, hj, rfl, rfl⟩ := hrel
    obtain ⟨b', off', ha', hb', q⟩ := H.out.at_ (j := j) (by have := HLEN.out; omega)
    simp only [Option.some.injEq, Addr.mk.injEq] at ha'
    obtain ⟨rfl, rfl, _⟩ := ha'
    have hjl : j < len := by omega
    by_cases hlt : j < p
    · have hv := HB.out j hlt
      generalize l.getD j [] = v at *
      obtain ⟨vb, hvb⟩ : ∃ vb : ByteArray, vb = ⟨v.toArray⟩ := ⟨_, rfl⟩
      have d1 : Op.bytesLess vb.toList nb.toList = true := by rw [lessS hvb HNB0.out]; simpa using hv
      rw [show encStr v = .string vb from by rw [hvb]] at q
      clear hv hvb
      go_wp2_with fail
      go_roundw
      case rel => exact ⟨j + 1, by omega, by go_num, by trivial⟩
      case measure => simp [intOf]; omega
    · obtain rfl : j = p := by omega
      rw [HE.out, HNB.out] at q
      have d1 : Op.bytesLess nb.toList nb.toList = false := less_irrefl _
      go_wp2_with fail
      go_ret
      exact ⟨⟨some ⟨b, off, none⟩, len, cap⟩, rfl, by rw [HI.out]; exact H.out, Cls.of (Below.refl _ _)⟩
set_option maxHeartbeats 4000000 in
set_option maxRecDepth 20000 in
theorem insertS_no (b off len cap : Nat) (l : List Bs) (n : Bs) (nb : ByteArray) (hnb : nb = ⟨n.toArray⟩) (w : World) (h : StrsIn w ⟨some ⟨b, off, none⟩, len, cap⟩ l) (hl : l.length ≤ 2 ^ 40) (hp : ¬ (posS l n < l.length ∧ l.getD (posS l n) [] = n)) (h0 : 0 < l.length) :
    Calls Tryd.prog 65 #[.slice (some ⟨b, off, none⟩) len cap, .string nb] w fun r w' => ∃ s' : Sl, r = .returned s'.v ∧ StrsIn w' s' (insS l n) ∧ Cls w w' := by
  have hlen : len = l.length := h.1
  have hle : len ≤ cap := h.2.1
  have hmax : cap ≤ maxLen := h.2.2.1
  unfold maxLen at hmax
  have HNB : Hid (encStr n = .string nb) := Lib.hid (by rw [hnb])
  have HNB0 := Lib.hid hnb
  clear hnb
  obtain ⟨i0, hi, hz0, hz1, hz2⟩ := info_parts infoS
  have HI : Hid (insS l n = l.take (posS l n) ++ n :: l.drop (posS l n)) := Lib.hid (by rw [insS_split, if_neg hp])
  have HB : Hid (∀ j, j < posS l n → l.getD j [] < n) := Lib.hid (fun j hj => posS_lt l n hj)
  have HC : Hid (posS l n < l.length → l.getD (posS l n) [] ≠ n ∧ ¬ l.getD (posS l n) [] < n) := Lib.hid (fun hj => ⟨fun he => hp ⟨hj, he⟩, posS_at l n hj⟩)
  have HP := Lib.hid (posS_le l n)
  have HLEN := Lib.hid hlen
  have H := Lib.hid h
  have hb : b < w.heap.size := by
    obtain ⟨b', off', ha, hb, _⟩ := h.at_ h0
    simp only [Option.some.injEq, Addr.mk.injEq] at ha
    obtain ⟨rfl, rfl, _⟩ := ha
    exact hb
  have hpl : posS l n ≤ len := by have := HP.out; omega
  have hl2 : len ≤ 2 ^ 40 := by omega
  clear h hp
  generalize hpe : posS l n = p at *
  have HLD : Hid ((l.drop p).length = len - p) := Lib.hid (by rw [List.length_drop, ← hlen])
  have HLT : Hid ((l.take p).length = p) := Lib.hid (by rw [List.length_take]; omega)
  clear hpe hlen hl h0
  go_enter Tryd.func65, Tryd.ntmps65
  go_wp2_with fail
  go_loopw [5] (fun i wr => ∃ j : Nat, j ≤ p ∧ i = .int .i64 j ∧ wr = w) (fun i _ => len - (intOf i).toNat)
  case atStart => exact ⟨0, Nat.zero_le _, rfl, by trivial⟩
  case round =>
    obtain ⟨j, hj, rfl, hwr⟩ := hrel
    subst hwr
    by_cases hlt : j < p
    · obtain ⟨b', off', ha', hb', q⟩ := H.out.at_ (j := j) (by have := HLEN.out; omega)
      simp only [Option.some.injEq, Addr.mk.injEq] at ha'
      obtain ⟨rfl, rfl, _⟩ := ha'
      have hjl : j < len := by omega
      have hv := HB.out j hlt
      generalize l.getD j [] = v at *
      obtain ⟨vb, hvb⟩ : ∃ vb : ByteArray, vb = ⟨v.toArray⟩ := ⟨_, rfl⟩
      have d1 : Op.bytesLess vb.toList nb.toList = true := by rw [lessS hvb HNB0.out]; simpa using hv
      rw [show encStr v = .string vb from by rw [hvb]] at q
      clear hv hvb
      go_wp2_with fail
      go_roundw
      case rel => exact ⟨j + 1, by omega, by go_num, by trivial⟩
      case measure => simp [intOf]; omega
    · obtain rfl : j = p := by omega
      by_cases hpl2 : j < len
      · obtain ⟨b', off', ha', hb', q⟩ := H.out.at_ (j := j) (by have := HLEN.out; omega)
        simp only [Option.some.injEq, Addr.mk.injEq] at ha'
        obtain ⟨rfl, rfl, _⟩ := ha'
        obtain ⟨g1, g2⟩ := HC.out (by have := HLEN.out; omega)
        generalize l.getD j [] = v at *
        obtain ⟨vb, hvb⟩ : ∃ vb : ByteArray, vb = ⟨v.toArray⟩ := ⟨_, rfl⟩
        have d1 : Op.bytesLess vb.toList nb.toList = false := by rw [lessS hvb HNB0.out]; simpa using g2
        have d2 : (vb.toList == nb.toList) = false := by rw [eqS hvb HNB0.out]; simpa using g1
        rw [show encStr v = .string vb from by rw [hvb]] at q
        clear g1 g2 hvb
        have hwl : wr.heap.size ≤ wr.heap.size := Nat.le_refl _
        have tok1 : True := trivial
        have tok2 : True := trivial
        have tok3 : True := trivial
        go_wp2_with (first | (at_builtin; have _t := tok1; refine wpList_append_own_at _ rfl _ _ 74 rfl wr.heap.size 9 i0 (.string ⟨#[]⟩) 1 16 Tryd.underlying74 hi hz0 hz1 hz2 rfl (by decide) (.slice none 0 0) 0 [] rfl (World.ownsRow_nil _ _ _ 1) ⟨b, off, none⟩ j cap (flatS (l.take j)) rfl (by rw [flatS_length, HLT.out]; omega) (H.out.head rfl (Below.refl _ _) j) (flatS_one _) (by unfold maxLen; omega) (by omega) (Nat.le_refl _) ?_; intro v1 w1 hown1 hg1 _ _; have HO1 : Hid (w1.ownsRow wr.heap.size 9 1 v1 (l.take j).length (flatS (l.take j))) := Lib.hid (by have h := hown1; rw [Nat.zero_add, List.nil_append] at h; rw [HLT.out]; exact h); have HB1 : Hid (Below wr.heap.size wr w1) := Lib.hid (Below.grown (w := wr) (Below.refl _ _) hg1 (Nat.le_refl _) (fun k hk => absurd hk (by simp [Value.ownBlock]))); have s1 := HB1.out.size; clear hown1 hg1 tok1 _t) | (at_builtin; have _t := tok2; refine wpList_append_own_at _ rfl _ _ 74 rfl wr.heap.size 9 i0 (.string ⟨#[]⟩) 1 16 Tryd.underlying74 hi hz0 hz1 hz2 rfl (by decide) v1 (l.take j).length (flatS (l.take j)) rfl (own_later' HO1.out (by repeat first | with_reducible exact Below.refl _ _ | with_reducible refine Below.setCell ?_ (by first | omega | (simp; done) | (simp; omega)) _ | with_reducible refine Below.alloc ?_ (by first | omega | (simp; done) | (simp; omega)) _ | with_reducible refine Below.drew ?_ | with_reducible refine Ext.on _ ?_ (by first | omega | (simp; done) | (simp; omega)))) ⟨w1.heap.size, 0, none⟩ 1 1 [.string nb] rfl rfl (cells_new' _ _ _) (fun u hu => by rcases List.mem_singleton.1 hu with rfl; rfl) (by rw [HLT.out]; unfold maxLen; omega) (by rw [HLT.out]; omega) (by simp; omega) ?_; intro v2 w2 hown2 hg2 _ _; have HO2 := Lib.hid hown2; have HB2 : Hid (Below wr.heap.size wr w2) := Lib.hid (Below.grown (w := w1.alloc _) (HB1.out.alloc (by omega) _) hg2 (by simp; omega) (fun k hk => (HO1.out.lt k hk).1)); have s2 := HB2.out.size; clear hown2 hg2 tok2 _t) | (at_builtin; have _t := tok3; refine wpList_append_own_at _ rfl _ _ 74 rfl wr.heap.size 9 i0 (.string ⟨#[]⟩) 1 16 Tryd.underlying74 hi hz0 hz1 hz2 rfl (by decide) v2 _ _ rfl HO2.out ⟨b, off + j, none⟩ (len - j) (cap - j) (flatS (l.drop j)) rfl (by rw [flatS_length, HLD.out]; omega) (H.out.rest rfl HB2.out j) (flatS_one _) (by rw [HLT.out]; unfold maxLen; omega) (by rw [HLT.out]; omega) (by omega) ?_; intro v3 w3 hown3 hg3 _ _; have HB3 : Hid (Below wr.heap.size wr w3) := Lib.hid (Below.grown (w := w2) HB2.out hg3 (by omega) (fun k hk => (HO2.out.lt k hk).1)); have HO3 : Hid (w3.ownsRow wr.heap.size 9 1 v3 (l.take j ++ n :: l.drop j).length (flatS (l.take j ++ n :: l.drop j))) := Lib.hid (by have h := hown3; rw [List.append_assoc, ← HNB.out] at h; rw [flatS_append, List.length_append, List.length_cons, HLD.out, show (l.take j).length + (len - j + 1) = (l.take j).length + 1 + (len - j) by omega]; exact h); clear hown3 hg3 tok3 _t))
        obtain ⟨s', hs', hin⟩ := StrsIn.of_own HO3.out
        subst hs'
        have HIN := Lib.hid hin
        clear hin
        go_ret
        exact ⟨s', rfl, by rw [HI.out]; exact HIN.out, Cls.of HB3.out⟩
      · have hpl3 : len = j := by omega
        subst hpl3
        rcases Nat.eq_or_lt_of_le hle with hcl | hcl
        · subst hcl
          have hcc : len = len := rfl
          have hwl : wr.heap.size ≤ wr.heap.size := Nat.le_refl _
          have tok1 : True := trivial
          have tok2 : True := trivial
          have tok3 : True := trivial
          go_wp2_with (first | (at_builtin; have _t := tok1; refine wpList_append_own_at _ rfl _ _ 74 rfl wr.heap.size 9 i0 (.string ⟨#[]⟩) 1 16 Tryd.underlying74 hi hz0 hz1 hz2 rfl (by decide) (.slice none 0 0) 0 [] rfl (World.ownsRow_nil _ _ _ 1) ⟨b, off, none⟩ len _ (flatS (l.take len)) rfl (by rw [flatS_length, HLT.out]; omega) (H.out.head rfl (Below.refl _ _) len) (flatS_one _) (by unfold maxLen; omega) (by omega) (Nat.le_refl _) ?_; intro v1 w1 hown1 hg1 _ _; have HO1 : Hid (w1.ownsRow wr.heap.size 9 1 v1 (l.take len).length (flatS (l.take len))) := Lib.hid (by have h := hown1; rw [Nat.zero_add, List.nil_append] at h; rw [HLT.out]; exact h); have HB1 : Hid (Below wr.heap.size wr w1) := Lib.hid (Below.grown (w := wr) (Below.refl _ _) hg1 (Nat.le_refl _) (fun k hk => absurd hk (by simp [Value.ownBlock]))); have s1 := HB1.out.size; clear hown1 hg1 tok1 _t) | (at_builtin; have _t := tok2; refine wpList_append_own_at _ rfl _ _ 74 rfl wr.heap.size 9 i0 (.string ⟨#[]⟩) 1 16 Tryd.underlying74 hi hz0 hz1 hz2 rfl (by decide) v1 (l.take len).length (flatS (l.take len)) rfl (own_later' HO1.out (by repeat first | with_reducible exact Below.refl _ _ | with_reducible refine Below.setCell ?_ (by first | omega | (simp; done) | (simp; omega)) _ | with_reducible refine Below.alloc ?_ (by first | omega | (simp; done) | (simp; omega)) _ | with_reducible refine Below.drew ?_ | with_reducible refine Ext.on _ ?_ (by first | omega | (simp; done) | (simp; omega)))) ⟨w1.heap.size, 0, none⟩ 1 1 [.string nb] rfl rfl (cells_new' _ _ _) (fun u hu => by rcases List.mem_singleton.1 hu with rfl; rfl) (by rw [HLT.out]; unfold maxLen; omega) (by rw [HLT.out]; omega) (by simp; omega) ?_; intro v2 w2 hown2 hg2 _ _; have HO2 := Lib.hid hown2; have HB2 : Hid (Below wr.heap.size wr w2) := Lib.hid (Below.grown (w := w1.alloc _) (HB1.out.alloc (by omega) _) hg2 (by simp; omega) (fun k hk => (HO1.out.lt k hk).1)); have s2 := HB2.out.size; clear hown2 hg2 tok2 _t) | (at_builtin; have _t := tok3; refine wpList_append_own_at _ rfl _ _ 74 rfl wr.heap.size 9 i0 (.string ⟨#[]⟩) 1 16 Tryd.underlying74 hi hz0 hz1 hz2 rfl (by decide) v2 _ _ rfl HO2.out _ 0 _ [] rfl rfl (fun _ _ h => by cases h) (fun _ h => by cases h) (by rw [HLT.out]; unfold maxLen; omega) (by rw [HLT.out]; omega) (by omega) ?_; intro v3 w3 hown3 hg3 _ _; have HB3 : Hid (Below wr.heap.size wr w3) := Lib.hid (Below.grown (w := w2) HB2.out hg3 (by omega) (fun k hk => (HO2.out.lt k hk).1)); have HO3 : Hid (w3.ownsRow wr.heap.size 9 1 v3 (l.take len ++ n :: l.drop len).length (flatS (l.take len ++ n :: l.drop len))) := Lib.hid (by have h := hown3; have hd : l.drop len = [] := List.eq_nil_of_length_eq_zero (by rw [HLD.out]; omega); rw [hd, flatS_append, List.length_append]; rw [List.append_nil, ← HNB.out] at h; exact h); clear hown3 hg3 tok3 _t))
          obtain ⟨s', hs', hin⟩ := StrsIn.of_own HO3.out
          subst hs'
          have HIN := Lib.hid hin
          clear hin
          go_ret
          exact ⟨s', rfl, by rw [HI.out]; exact HIN.out, Cls.of HB3.out⟩
        · have hcc : ¬ cap = len := by omega
          have hwl : wr.heap.size ≤ wr.heap.size := Nat.le_refl _
          have tok1 : True := trivial
          have tok2 : True := trivial
          have tok3 : True := trivial
          go_wp2_with (first | (at_builtin; have _t := tok1; refine wpList_append_own_at _ rfl _ _ 74 rfl wr.heap.size 9 i0 (.string ⟨#[]⟩) 1 16 Tryd.underlying74 hi hz0 hz1 hz2 rfl (by decide) (.slice none 0 0) 0 [] rfl (World.ownsRow_nil _ _ _ 1) ⟨b, off, none⟩ len _ (flatS (l.take len)) rfl (by rw [flatS_length, HLT.out]; omega) (H.out.head rfl (Below.refl _ _) len) (flatS_one _) (by unfold maxLen; omega) (by omega) (Nat.le_refl _) ?_; intro v1 w1 hown1 hg1 _ _; have HO1 : Hid (w1.ownsRow wr.heap.size 9 1 v1 (l.take len).length (flatS (l.take len))) := Lib.hid (by have h := hown1; rw [Nat.zero_add, List.nil_append] at h; rw [HLT.out]; exact h); have HB1 : Hid (Below wr.heap.size wr w1) := Lib.hid (Below.grown (w := wr) (Below.refl _ _) hg1 (Nat.le_refl _) (fun k hk => absurd hk (by simp [Value.ownBlock]))); have s1 := HB1.out.size; clear hown1 hg1 tok1 _t) | (at_builtin; have _t := tok2; refine wpList_append_own_at _ rfl _ _ 74 rfl wr.heap.size 9 i0 (.string ⟨#[]⟩) 1 16 Tryd.underlying74 hi hz0 hz1 hz2 rfl (by decide) v1 (l.take len).length (flatS (l.take len)) rfl (own_later' HO1.out (by repeat first | with_reducible exact Below.refl _ _ | with_reducible refine Below.setCell ?_ (by first | omega | (simp; done) | (simp; omega)) _ | with_reducible refine Below.alloc ?_ (by first | omega | (simp; done) | (simp; omega)) _ | with_reducible refine Below.drew ?_ | with_reducible refine Ext.on _ ?_ (by first | omega | (simp; done) | (simp; omega)))) ⟨w1.heap.size, 0, none⟩ 1 1 [.string nb] rfl rfl (cells_new' _ _ _) (fun u hu => by rcases List.mem_singleton.1 hu with rfl; rfl) (by rw [HLT.out]; unfold maxLen; omega) (by rw [HLT.out]; omega) (by simp; omega) ?_; intro v2 w2 hown2 hg2 _ _; have HO2 := Lib.hid hown2; have HB2 : Hid (Below wr.heap.size wr w2) := Lib.hid (Below.grown (w := w1.alloc _) (HB1.out.alloc (by omega) _) hg2 (by simp; omega) (fun k hk => (HO1.out.lt k hk).1)); have s2 := HB2.out.size; clear hown2 hg2 tok2 _t) | (at_builtin; have _t := tok3; refine wpList_append_own_at _ rfl _ _ 74 rfl wr.heap.size 9 i0 (.string ⟨#[]⟩) 1 16 Tryd.underlying74 hi hz0 hz1 hz2 rfl (by decide) v2 _ _ rfl HO2.out _ 0 _ [] rfl rfl (fun _ _ h => by cases h) (fun _ h => by cases h) (by rw [HLT.out]; unfold maxLen; omega) (by rw [HLT.out]; omega) (by omega) ?_; intro v3 w3 hown3 hg3 _ _; have HB3 : Hid (Below wr.heap.size wr w3) := Lib.hid (Below.grown (w := w2) HB2.out hg3 (by omega) (fun k hk => (HO2.out.lt k hk).1)); have HO3 : Hid (w3.ownsRow wr.heap.size 9 1 v3 (l.take len ++ n :: l.drop len).length (flatS (l.take len ++ n :: l.drop len))) := Lib.hid (by have h := hown3; have hd : l.drop len = [] := List.eq_nil_of_length_eq_zero (by rw [HLD.out]; omega); rw [hd, flatS_append, List.length_append]; rw [List.append_nil, ← HNB.out] at h; exact h); clear hown3 hg3 tok3 _t))
          obtain ⟨s', hs', hin⟩ := StrsIn.of_own HO3.out
          subst hs'
          have HIN := Lib.hid hin
          clear hin
          go_ret
          exact ⟨s', rfl, by rw [HI.out]; exact HIN.out, Cls.of HB3.out⟩
set_option maxHeartbeats 4000000 in
set_option maxRecDepth 20000 in
theorem insertS_nil (a : Option Addr) (cap : Nat) (n : Bs) (nb : ByteArray) (hnb : nb = ⟨n.toArray⟩) (w : World) (h0 : a = none → cap = 0) (hmax : cap ≤ maxLen) :
    Calls Tryd.prog 65 #[.slice a 0 cap, .string nb] w fun r w' => ∃ s' : Sl, r = .returned s'.v ∧ StrsIn w' s' [n] ∧ Cls w w' := by
  unfold maxLen at hmax
  have HNB : Hid (encStr n = .string nb) := Lib.hid (by rw [hnb])
  have HNB0 := Lib.hid hnb
  clear hnb
  obtain ⟨i0, hi, hz0, hz1, hz2⟩ := info_parts infoS
  go_enter Tryd.func65, Tryd.ntmps65
  go_wp2_with fail
  go_loopw [5] (fun i wr => i = .int .i64 0 ∧ wr = w) (fun i _ => 0)
  case atStart => exact ⟨rfl, by trivial⟩
  case round =>
    obtain ⟨rfl, hwr⟩ := hrel
    subst hwr
    cases a with
    | none =>
      obtain rfl := h0 rfl
      clear h0
      have tok1 : True := trivial
      have tok2 : True := trivial
      have tok3 : True := trivial
      go_wp2_with (first | (at_builtin; have _t := tok1; refine wpList_append_own_none rfl _ _ 74 rfl wr.heap.size 9 i0 1 Tryd.underlying74 hi (.slice none 0 0) 0 [] rfl (World.ownsRow_nil _ _ _ 1) rfl ?_; have HB1 : Hid (Below wr.heap.size wr wr) := Lib.hid (Below.refl _ _); have s1 := HB1.out.size; clear tok1 _t) | (at_builtin; have _t := tok2; refine wpList_append_own_at _ rfl _ _ 74 rfl wr.heap.size 9 i0 (.string ⟨#[]⟩) 1 16 Tryd.underlying74 hi hz0 hz1 hz2 rfl (by decide) (.slice none 0 0) 0 [] rfl (World.ownsRow_nil _ _ _ 1) ⟨wr.heap.size, 0, none⟩ 1 1 [.string nb] rfl rfl (cells_new' _ _ _) (fun u hu => by rcases List.mem_singleton.1 hu with rfl; rfl) (by unfold maxLen; omega) (by omega) (by first | (simp; done) | (simp; omega)) ?_; intro v2 w2 hown2 hg2 _ _; have HO2 : Hid (w2.ownsRow wr.heap.size 9 1 v2 [n].length (flatS [n])) := Lib.hid (by have h := hown2; rw [← HNB.out] at h; exact h); have HB2 : Hid (Below wr.heap.size wr w2) := Lib.hid (Below.grown (w := wr.alloc _) (HB1.out.alloc (by omega) _) hg2 (by first | (simp; done) | (simp; omega)) (fun k hk => absurd hk (by simp [Value.ownBlock]))); have s2 := HB2.out.size; clear hown2 hg2; clear tok2 _t) | (at_builtin; have _t := tok3; refine wpList_append_own_none rfl _ _ 74 rfl wr.heap.size 9 i0 1 Tryd.underlying74 hi v2 _ _ rfl HO2.out rfl ?_; have HB3 := HB2; have HO3 := HO2; obtain ⟨v3, hv3⟩ : ∃ v3, v3 = v2 := ⟨_, rfl⟩; obtain ⟨w3, hw3⟩ : ∃ w3, w3 = w2 := ⟨_, rfl⟩; rw [← hv3] at HO3; rw [← hw3] at HO3 HB3; clear tok3 _t))
      obtain ⟨s', hs', hin⟩ := StrsIn.of_own HO3.out
      subst hv3 hw3
      subst hs'
      have HIN := Lib.hid hin
      clear hin
      go_ret
      exact ⟨s', rfl, HIN.out, Cls.of HB3.out⟩
    | some ad =>
      clear h0
      by_cases hc : cap = 0
      · subst hc
        have tok1 : True := trivial
        have tok2 : True := trivial
        have tok3 : True := trivial
        go_wp2_with (first | (at_builtin; have _t := tok1; refine wpList_append_own_at _ rfl _ _ 74 rfl wr.heap.size 9 i0 (.string ⟨#[]⟩) 1 16 Tryd.underlying74 hi hz0 hz1 hz2 rfl (by decide) (.slice none 0 0) 0 [] rfl (World.ownsRow_nil _ _ _ 1) _ 0 _ [] rfl rfl (fun _ _ h => by cases h) (fun _ h => by cases h) (by unfold maxLen; omega) (by omega) (Nat.le_refl _) ?_; intro v1 w1 hown1 hg1 hn1 _; obtain rfl := hn1.2 ⟨rfl, rfl⟩; have HB1 : Hid (Below wr.heap.size wr w1) := Lib.hid (Below.grown (w := wr) (Below.refl _ _) hg1 (Nat.le_refl _) (fun k hk => absurd hk (by simp [Value.ownBlock]))); clear hown1 hg1 hn1; have s1 := HB1.out.size; clear tok1 _t) | (at_builtin; have _t := tok2; refine wpList_append_own_at _ rfl _ _ 74 rfl wr.heap.size 9 i0 (.string ⟨#[]⟩) 1 16 Tryd.underlying74 hi hz0 hz1 hz2 rfl (by decide) (.slice none 0 0) 0 [] rfl (World.ownsRow_nil _ _ _ 1) ⟨w1.heap.size, 0, none⟩ 1 1 [.string nb] rfl rfl (cells_new' _ _ _) (fun u hu => by rcases List.mem_singleton.1 hu with rfl; rfl) (by unfold maxLen; omega) (by omega) (by first | (simp; done) | (simp; omega)) ?_; intro v2 w2 hown2 hg2 _ _; have HO2 : Hid (w2.ownsRow wr.heap.size 9 1 v2 [n].length (flatS [n])) := Lib.hid (by have h := hown2; rw [← HNB.out] at h; exact h); have HB2 : Hid (Below wr.heap.size wr w2) := Lib.hid (Below.grown (w := w1.alloc _) (HB1.out.alloc (by omega) _) hg2 (by first | (simp; done) | (simp; omega)) (fun k hk => absurd hk (by simp [Value.ownBlock]))); have s2 := HB2.out.size; clear hown2 hg2; clear tok2 _t) | (at_builtin; have _t := tok3; refine wpList_append_own_at _ rfl _ _ 74 rfl wr.heap.size 9 i0 (.string ⟨#[]⟩) 1 16 Tryd.underlying74 hi hz0 hz1 hz2 rfl (by decide) v2 _ _ rfl HO2.out _ 0 _ [] rfl rfl (fun _ _ h => by cases h) (fun _ h => by cases h) (by show 1 + 0 ≤ maxLen; unfold maxLen; omega) (by show (1 + 0) * 16 ≤ _; omega) (by omega) ?_; intro v3 w3 hown3 hg3 _ _; have HO3 : Hid (w3.ownsRow wr.heap.size 9 1 v3 [n].length (flatS [n])) := Lib.hid (by have h := hown3; rw [List.append_nil] at h; exact h); have HB3 : Hid (Below wr.heap.size wr w3) := Lib.hid (Below.grown (w := w2) HB2.out hg3 (by omega) (fun k hk => (HO2.out.lt k hk).1)); clear hown3 hg3; clear tok3 _t))
        obtain ⟨s', hs', hin⟩ := StrsIn.of_own HO3.out

        subst hs'
        have HIN := Lib.hid hin
        clear hin
        go_ret
        exact ⟨s', rfl, HIN.out, Cls.of HB3.out⟩
      · have hcc : ¬ cap = 0 := hc
        have tok1 : True := trivial
        have tok2 : True := trivial
        have tok3 : True := trivial
        go_wp2_with (first | (at_builtin; have _t := tok1; refine wpList_append_own_at _ rfl _ _ 74 rfl wr.heap.size 9 i0 (.string ⟨#[]⟩) 1 16 Tryd.underlying74 hi hz0 hz1 hz2 rfl (by decide) (.slice none 0 0) 0 [] rfl (World.ownsRow_nil _ _ _ 1) _ 0 _ [] rfl rfl (fun _ _ h => by cases h) (fun _ h => by cases h) (by unfold maxLen; omega) (by omega) (Nat.le_refl _) ?_; intro v1 w1 hown1 hg1 hn1 _; obtain rfl := hn1.2 ⟨rfl, rfl⟩; have HB1 : Hid (Below wr.heap.size wr w1) := Lib.hid (Below.grown (w := wr) (Below.refl _ _) hg1 (Nat.le_refl _) (fun k hk => absurd hk (by simp [Value.ownBlock]))); clear hown1 hg1 hn1; have s1 := HB1.out.size; clear tok1 _t) | (at_builtin; have _t := tok2; refine wpList_append_own_at _ rfl _ _ 74 rfl wr.heap.size 9 i0 (.string ⟨#[]⟩) 1 16 Tryd.underlying74 hi hz0 hz1 hz2 rfl (by decide) (.slice none 0 0) 0 [] rfl (World.ownsRow_nil _ _ _ 1) ⟨w1.heap.size, 0, none⟩ 1 1 [.string nb] rfl rfl (cells_new' _ _ _) (fun u hu => by rcases List.mem_singleton.1 hu with rfl; rfl) (by unfold maxLen; omega) (by omega) (by first | (simp; done) | (simp; omega)) ?_; intro v2 w2 hown2 hg2 _ _; have HO2 : Hid (w2.ownsRow wr.heap.size 9 1 v2 [n].length (flatS [n])) := Lib.hid (by have h := hown2; rw [← HNB.out] at h; exact h); have HB2 : Hid (Below wr.heap.size wr w2) := Lib.hid (Below.grown (w := w1.alloc _) (HB1.out.alloc (by omega) _) hg2 (by first | (simp; done) | (simp; omega)) (fun k hk => absurd hk (by simp [Value.ownBlock]))); have s2 := HB2.out.size; clear hown2 hg2; clear tok2 _t) | (at_builtin; have _t := tok3; refine wpList_append_own_at _ rfl _ _ 74 rfl wr.heap.size 9 i0 (.string ⟨#[]⟩) 1 16 Tryd.underlying74 hi hz0 hz1 hz2 rfl (by decide) v2 _ _ rfl HO2.out _ 0 _ [] rfl rfl (fun _ _ h => by cases h) (fun _ h => by cases h) (by show 1 + 0 ≤ maxLen; unfold maxLen; omega) (by show (1 + 0) * 16 ≤ _; omega) (by omega) ?_; intro v3 w3 hown3 hg3 _ _; have HO3 : Hid (w3.ownsRow wr.heap.size 9 1 v3 [n].length (flatS [n])) := Lib.hid (by have h := hown3; rw [List.append_nil] at h; exact h); have HB3 : Hid (Below wr.heap.size wr w3) := Lib.hid (Below.grown (w := w2) HB2.out hg3 (by omega) (fun k hk => (HO2.out.lt k hk).1)); clear hown3 hg3; clear tok3 _t))
        obtain ⟨s', hs', hin⟩ := StrsIn.of_own HO3.out

        subst hs'
        have HIN := Lib.hid hin
        clear hin
        go_ret
        exact ⟨s', rfl, HIN.out, Cls.of HB3.out⟩
theorem insertS_calls (s : Sl) (l : List Bs) (n : Bs) (nb : ByteArray) (hnb : nb = ⟨n.toArray⟩) (w : World) (h : StrsIn w s l) (hl : l.length ≤ 2 ^ 40) :
    Calls Tryd.prog 65 #[.slice s.a s.len s.cap, .string nb] w fun r w' => ∃ s' : Sl, r = .returned s'.v ∧ StrsIn w' s' (insS l n) ∧ Cls w w' := by
  by_cases h0 : 0 < l.length
  · obtain ⟨b, off, ha, _, _⟩ := h.at_ h0
    obtain ⟨a, len, cap⟩ := s
    simp only at ha
    subst ha
    by_cases hp : posS l n < l.length ∧ l.getD (posS l n) [] = n
    · exact insertS_yes _ len cap l n nb hnb w h hl hp.1 hp.2
    · exact insertS_no b off len cap l n nb hnb w h hl hp h0
  · obtain rfl : l = [] := List.eq_nil_of_length_eq_zero (by omega)
    obtain ⟨a, len, cap⟩ := s
    obtain rfl : len = 0 := h.1
    exact insertS_nil a cap n nb hnb w (fun ha => (h.2.2.2.1 ha).2) h.2.2.1
end Go.Proofs.YtonnbmiallammaaDoor
