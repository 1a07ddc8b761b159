/-
  Bags as slices of slices of values: what they hold; clones of rows and of lists of rows; when two rows are the same.
-/
import Derived.Test.YtihdfomkphbdnaaOpen
import Derived.Test.YtihdfomkphbdnaaBMath
import Derived.Test.YtihdfomkphbdnaaBDrew
import Derived.OwnWalk
import Derived.Lib.SliceRun
import Derived.Laws.AppendOwnNone
set_option linter.unusedVariables false
namespace Go.Proofs.Ytihdfomkphbdnaa
open Go Go.RowKit
/-- A row as a slice, and what it holds. -/
structure Rw where
  a : Option Addr
  len : Nat
  cap : Nat
  vs : List Vl
instance : Inhabited Rw := ⟨⟨none, 0, 0, []⟩⟩
def Rw.enc (r : Rw) : Value := .slice r.a r.len r.cap
structure Rw.Ok (w : World) (r : Rw) : Prop where
  holds : Holds w r.a r.len r.vs
  le : r.len ≤ r.cap
  cap : r.cap ≤ maxLen
  small : r.len ≤ 10000
theorem Rw.Ok.later {w w' : World} {r : Rw} (h : r.Ok w) (hb : Below w.heap.size w w') : r.Ok w' := ⟨h.holds.later hb, h.le, h.cap, h.small⟩
theorem Rw.Ok.nil (w : World) : (default : Rw).Ok w := ⟨⟨rfl, .inl rfl⟩, Nat.le_refl _, Nat.zero_le _, Nat.zero_le _⟩
def flatR (l : List Rw) : List Value := l.map Rw.enc
def vss (l : List Rw) : List Row := l.map (·.vs)
/-- The slice holds these rows. -/
structure Rws (w : World) (a : Option Addr) (len : Nat) (l : List Rw) : Prop where
  ln : l.length = len
  ok : ∀ r ∈ l, r.Ok w
  at_ : len = 0 ∨ ∃ b off, a = some ⟨b, off, none⟩ ∧ b < w.heap.size ∧ ∀ i, i < len → w.cell? ⟨b, off + i, none⟩ = some (l.getD i default).enc
theorem Rws.later {w w' : World} {a : Option Addr} {len : Nat} {l : List Rw} (h : Rws w a len l) (hb : Below w.heap.size w w') : Rws w' a len l := by
  refine ⟨h.ln, fun r hr => (h.ok r hr).later hb, h.at_.imp id ?_⟩
  rintro ⟨b, off, ha, hlt, hc⟩
  exact ⟨b, off, ha, Nat.lt_of_lt_of_le hlt hb.size, fun i hi => by rw [hb.cell (p := ⟨b, _, none⟩) hlt]; exact hc i hi⟩
theorem Rws.nil (w : World) (a : Option Addr) : Rws w a 0 [] := ⟨rfl, (fun r hr => by cases hr), .inl rfl⟩
theorem Rws.get {w : World} {a : Option Addr} {len : Nat} {l : List Rw} (h : Rws w a len l) (i : Nat) : (l.getD i default).Ok w := by
  by_cases hi : i < l.length
  · have : l.getD i default = l[i] := by simp [List.getD, hi]
    rw [this]; exact h.ok _ (List.getElem_mem hi)
  · have : l.getD i default = default := by simp [List.getD, Nat.le_of_not_lt hi]
    rw [this]; exact Rw.Ok.nil w
/-- What is left behind the first m rows. -/
theorem Rws.drop {w : World} {b off len : Nat} {l : List Rw} (h : Rws w (some ⟨b, off, none⟩) len l) (m : Nat) (hm : m < len) : Rws w (some ⟨b, off + m, none⟩) (len - m) (l.drop m) := by
  refine ⟨by rw [List.length_drop, h.ln], fun r hr => h.ok r (List.mem_of_mem_drop hr), .inr ?_⟩
  obtain ⟨b', off', ha, hlt, hc⟩ := h.at_.resolve_left (by omega)
  obtain ⟨rfl, rfl⟩ : b = b' ∧ off = off' := by simpa using ha
  refine ⟨b, off + m, rfl, hlt, fun i hi => ?_⟩
  have := hc (m + i) (by omega)
  rw [show off + m + i = off + (m + i) by omega, this]
  congr 2
  simp [List.getD, List.getElem?_drop]
theorem flatR_length (l : List Rw) : (flatR l).length = l.length := by simp [flatR]
theorem flatR_one (l : List Rw) : ∀ u ∈ flatR l, u.oneCell' = true := by
  intro u hu
  obtain ⟨r, _, rfl⟩ := List.mem_map.1 hu
  rfl
theorem flatR_at {l : List Rw} {i : Nat} (h : i < l.length) : (flatR l)[i]? = some (l.getD i default).enc := by simp [flatR, List.getD, h]
theorem cellsR {w : World} {b off len : Nat} {l : List Rw} (hl : l.length = len) (hc : ∀ i, i < len → w.cell? ⟨b, off + i, none⟩ = some (l.getD i default).enc) : ∀ j u, (flatR l)[j]? = some u → w.cell? ((⟨b, off, none⟩ : Addr).add j) = some u := by
  intro j u hj
  have hjl : j < l.length := by have := (List.getElem?_eq_some_iff.1 hj).1; rwa [flatR_length] at this
  rw [flatR_at hjl] at hj
  have hadd : (⟨b, off, none⟩ : Addr).add j = ⟨b, off + j, none⟩ := by unfold Addr.add; split <;> simp_all
  rw [hadd, hc j (by omega)]
  exact hj
/-- A row of one's own that holds these slices. -/
theorem Rws.own {w : World} {base n : Nat} {v : Value} {l : List Rw} (h : w.ownsRow base 24 1 v n (flatR l)) (hok : ∀ r ∈ l, r.Ok w) : ∃ a cap, v = .slice a n cap ∧ n ≤ cap ∧ cap ≤ maxLen ∧ Rws w a n l := by
  have hlen : l.length = n := by have := h.1; rw [flatR_length] at this; omega
  rcases h.2 with ⟨rfl, h0⟩ | ⟨g, cap, cur, rfl, hb, hh, hn, hc, hs, ht⟩
  · subst h0; exact ⟨none, 0, rfl, Nat.le_refl _, Nat.zero_le _, hlen, hok, .inl rfl⟩
  · refine ⟨some ⟨g, 0, none⟩, cap, rfl, hn, hc, hlen, hok, ?_⟩
    right
    refine ⟨g, 0, rfl, (Array.getElem?_eq_some_iff.1 hh).1, fun i hi => ?_⟩
    have hcell := World.ownsRow.cells h (g := g) rfl i _ (flatR_at (by omega))
    have hadd : ∀ j, (⟨g, 0, none⟩ : Addr).add j = ⟨g, 0 + j, none⟩ := fun j => by unfold Addr.add; split <;> simp_all
    rw [hadd] at hcell
    exact hcell
theorem infoV : (Try.prog.info? 40).map (fun i => (i.zero, i.size, i.bytes)) = some (some (.agg #[.int .i64 0, .int .i64 0, .string ⟨#[]⟩]), 3, 32) := by kernel_rfl
theorem infoR : (Try.prog.info? 24).map (fun i => (i.zero, i.size, i.bytes)) = some (some (.slice none 0 0), 1, 24) := by kernel_rfl
theorem below_grown {B : Nat} {w w' : World} (h : w.grownBy w' none) (hB : B ≤ w.heap.size) : Below B w w' := (Below.refl B w).grown h hB (fun k h => by cases h)
theorem Holds.cells {w : World} {x : Addr} {len : Nat} {l : List Vl} (h : Holds w (some x) len l) : ∀ j u, (flatV l)[j]? = some u → w.cell? (x.add j) = some u := by
  obtain ⟨hl, hh⟩ := h
  rcases hh with h0 | ⟨b, off, ha, _, hcell⟩
  · intro j u hj
    have := (List.getElem?_eq_some_iff.1 hj).1
    rw [flatV_length, hl, h0] at this
    omega
  · obtain rfl : x = ⟨b, off, none⟩ := by simpa using ha
    exact Holds.flat hcell hl
set_option maxHeartbeats 2000000 in
theorem CloneRow_calls (r : Rw) (w : World) (h : r.Ok w) :
    Calls Try.prog 29 #[r.enc] w fun e w' => ∃ r' : Rw, e = .returned r'.enc ∧ r'.vs = r.vs ∧ r'.len = r.len ∧ r'.Ok w' ∧ (∀ x, r'.a = some x → w.heap.size ≤ x.block) ∧ Below w.heap.size w w' := by
  obtain ⟨ra, len, cap, vs⟩ := r
  obtain ⟨hh, hle, hcap, hsm⟩ := h
  simp only at hh hle hcap hsm
  simp only [Rw.enc]
  have q : ∀ (w : World) (a : Option Addr) (n c n' c' : Nat), (binOp .eql 24 (.slice a n c) (.slice none n' c')).run Try.prog w = .ok (.bool a.isNone) w := fun w a n c n' c' => Lib.run_eql_slice_nil w _ _ a n c n' c' Try.underlying24
  obtain ⟨i0, hi, hz0, hz1, hz2⟩ := info_parts infoV
  cases ra with
  | none =>
    have h0 : len = 0 := by
      rcases hh.2 with h0 | ⟨_, _, hx, _⟩
      · exact h0
      · cases hx
    have hv : vs = [] := List.eq_nil_of_length_eq_zero (by rw [hh.1, h0])
    clear hh hcap hle
    go_enter Try.func29, Try.ntmps29
    go_wp2
    go_ret
    exact ⟨⟨none, 0, 0, []⟩, rfl, hv.symm, h0.symm, ⟨⟨rfl, .inl rfl⟩, Nat.le_refl _, Nat.zero_le _, Nat.zero_le _⟩, (fun x hx => by cases hx), Below.refl _ _⟩
  | some x =>
    have HC := Lib.hid hh
    have LN : Hid ((flatV vs).length = len * 3) := Lib.hid (by rw [flatV_length, hh.1])
    clear hh
    have tok1 : True := trivial
    unfold maxLen at hcap
    go_enter Try.func29, Try.ntmps29
    go_wp2_with (at_builtin; have _t := tok1; refine wpList_append_own _ rfl _ _ 24 rfl w.heap.size 40 i0 (.agg #[.int .i64 0, .int .i64 0, .string ⟨#[]⟩]) 3 32 Try.underlying24 hi hz0 hz1 hz2 rfl (by decide) _ _ _ rfl (World.ownsRow_made w #[] 0 (Nat.le_refl _) (Nat.zero_le _) (by simp)) x len cap (flatV vs) rfl LN.out (HC.out.later ((Below.refl _ _).alloc (Nat.le_refl _) _)).cells (flatV_one vs) (by unfold maxLen; omega) (by omega) (by simp) ?_; intro v2 w2 hown2 hgrow2 _; rw [Nat.zero_add, List.nil_append] at hown2; have bel2 := (((Below.refl w.heap.size w).alloc (Nat.le_refl _) _).grown hgrow2 (by simp) (by intro k hk; exact Nat.le_of_eq (Option.some.inj hk))); clear hgrow2 tok1 _t)
    go_ret
    obtain ⟨p, cp, hv, hp1, hp2, HV0⟩ := Holds.own (l := vs) hown2
    subst hv
    exact ⟨⟨p, len, cp, vs⟩, rfl, rfl, rfl, ⟨HV0, hp1, hp2, hsm⟩, (fun x hx => (hown2.lt x.block (by subst hx; rfl)).1), bel2⟩
set_option maxHeartbeats 2000000 in
theorem CloneRows_calls (a : Option Addr) (n c : Nat) (l : List Rw) (w : World) (h : Rws w a n l) (hn : n ≤ 10000) :
    Calls Try.prog 50 #[.slice a n c] w fun e w' => ∃ v, e = .returned v ∧ w'.ownsRow w.heap.size 24 1 v n (flatR l) ∧ Below w.heap.size w w' := by
  have q : ∀ (w : World) (a : Option Addr) (n c n' c' : Nat), (binOp .eql 22 (.slice a n c) (.slice none n' c')).run Try.prog w = .ok (.bool a.isNone) w := fun w a n c n' c' => Lib.run_eql_slice_nil w _ _ a n c n' c' Try.underlying22
  obtain ⟨i0, hi, hz0, hz1, hz2⟩ := info_parts infoR
  cases a with
  | none =>
    have h0 : n = 0 := by
      rcases h.at_ with h0 | ⟨_, _, hx, _⟩
      · exact h0
      · cases hx
    subst h0
    have hv : l = [] := List.eq_nil_of_length_eq_zero h.ln
    subst hv
    clear h
    go_enter Try.func50, Try.ntmps50
    go_wp2
    go_ret
    exact ⟨_, rfl, World.ownsRow_nil _ _ _ _, Below.refl _ _⟩
  | some x =>
    have LN : Hid ((flatR l).length = n * 1) := Lib.hid (by rw [flatR_length, h.ln, Nat.mul_one])
    have HC : Hid (∀ W, Below w.heap.size w W → ∀ j u, (flatR l)[j]? = some u → W.cell? (x.add j) = some u) := Lib.hid (by
      intro W hW
      rcases (h.later hW).at_ with h0 | ⟨b, off, ha, _, hcell⟩
      · intro j u hj
        have := (List.getElem?_eq_some_iff.1 hj).1
        rw [flatR_length, h.ln, h0] at this
        omega
      · obtain rfl : x = ⟨b, off, none⟩ := by simpa using ha
        exact cellsR h.ln hcell)
    clear h
    have tok1 : True := trivial
    go_enter Try.func50, Try.ntmps50
    go_wp2_with (at_builtin; have _t := tok1; refine wpList_append_own _ rfl _ _ 22 rfl w.heap.size 24 i0 (.slice none 0 0) 1 24 Try.underlying22 hi hz0 hz1 hz2 rfl (by decide) _ _ _ rfl (World.ownsRow_made w #[] 0 (Nat.le_refl _) (Nat.zero_le _) (by simp)) x n c (flatR l) rfl LN.out (HC.out _ ((Below.refl _ _).alloc (Nat.le_refl _) _)) (flatR_one l) (by unfold maxLen; omega) (by omega) (by simp) ?_; intro v2 w2 hown2 hgrow2 _; rw [Nat.zero_add, List.nil_append] at hown2; have bel2 := (((Below.refl w.heap.size w).alloc (Nat.le_refl _) _).grown hgrow2 (by simp) (by intro k hk; exact Nat.le_of_eq (Option.some.inj hk))); clear hgrow2 tok1 _t)
    go_ret
    exact ⟨v2, rfl, hown2, bel2⟩
/-- Whether two rows are the same. -/
def sameR (r s : List Vl) : Bool := decide (r = s)
theorem sameR_cmp (r s : List Vl) : (cmpL r s == 0) = sameR r s := by
  unfold sameR
  by_cases h : r = s
  · subst h; simp [cmpL_self]
  · have : ¬ cmpL r s = 0 := fun e => h (cmpL_zero e)
    simp [h, this]
set_option maxHeartbeats 1000000 in
theorem same_calls (r s : Rw) (w : World) (h : r.Ok w) (h' : s.Ok w) :
    Calls Try.prog 43 #[r.enc, s.enc] w fun e w' => e = .returned (.bool (sameR r.vs s.vs)) ∧ Cls w w' := by
  obtain ⟨ra, len, cap, vs⟩ := r
  obtain ⟨ra', len', cap', vs'⟩ := s
  have C := CompareRows_calls _ _ _ _ _ _ _ _ w h.holds h'.holds h.le h'.le h.cap h'.cap
  simp only [Rw.enc] at *
  rw [← sameR_cmp]
  clear h h'
  go_enter Try.func43, Try.ntmps43
  go_wp2_with (go_at_call 49; refine C.mono ?_; rintro e _ ⟨rfl, y, rfl⟩)
  go_ret
  exact ⟨rfl, y, rfl⟩
end Go.Proofs.Ytihdfomkphbdnaa
