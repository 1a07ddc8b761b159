/-
  BG: pruned out of XLists XOpen XBMath XBDrew XBRow XBLead XBIdx XBSort XBTal XBTal2 XBOwn XBComb XBOps XBTell XBOpen XBTrue XBRef1 XRCopy XRCan XRCan2 XRGrp XRTimes XROps
-/
import Derived.Test.YtpddkljedhghkaaDoorA05
import Derived.Test.YtpddkljedhghkaaDoorA06
import Derived.LoopTactic
import Derived.Lib.Hide
import Derived.BigQuiet
import Derived.Deep.Slices
import Derived.Deep.Strs
import Derived.Deep.Fields
import Derived.ProofKit
import Derived.Laws.AppendOwn
import Derived.Sort.Grow
import Derived.Deep.Draws
import Derived.OwnWalk
import Derived.Lib.SliceRun
import Derived.Laws.AppendOwnNone
import Derived.Maps.AppendAt
import Derived.Shelf.Abstract
import Derived.Laws.CopyOwn
import Derived.Laws.MakeOwn
import Derived.Deep.CutBlock
import Derived.Deep.DeepCutAuto
set_option linter.unusedVariables false
set_option maxRecDepth 20000
namespace Go.Proofs.YtpddkljedhghkaaDoor.BG
open Go Go.RowKit Go.Sort
/-- The slice holds these values. -/
def Holds (w : World) (a : Option Addr) (len : Nat) (l : List Vl) : Prop :=
  l.length = len ∧ (len = 0 ∨ ∃ b off, a = some ⟨b, off, none⟩ ∧ b < w.heap.size ∧ ∀ i, i < len →
    w.cell? ⟨b, off + i * 3, none⟩ = some (.int .i64 (l.getD i Vl.z).k) ∧ w.cell? ⟨b, off + i * 3 + 1, none⟩ = some (.int .i64 (l.getD i Vl.z).n) ∧ w.cell? ⟨b, off + i * 3 + 2, none⟩ = some (.string (l.getD i Vl.z).s))
theorem Holds.later {w : World} {a : Option Addr} {len : Nat} {l : List Vl} (h : Holds w a len l) {w' : World} (hb : Below w.heap.size w w') : Holds w' a len l := by
  refine ⟨h.1, h.2.imp id ?_⟩
  rintro ⟨b, off, ha, hlt, hc⟩
  refine ⟨b, off, ha, Nat.lt_of_lt_of_le hlt hb.size, fun i hi => ?_⟩
  obtain ⟨h0, h1, h2⟩ := hc i hi
  exact ⟨by rw [hb.cell (p := ⟨b, _, none⟩) hlt]; exact h0, by rw [hb.cell (p := ⟨b, _, none⟩) hlt]; exact h1, by rw [hb.cell (p := ⟨b, _, none⟩) hlt]; exact h2⟩
def cmpW (a b : Vl) : Int := cmpV a.k a.n a.s b.k b.n b.s
def cmpL : List Vl → List Vl → Int
  | [], [] => 0
  | [], _ :: _ => -1
  | _ :: _, [] => 1
  | a :: l, b :: m => if cmpW a b = 0 then cmpL l m else cmpW a b
theorem drop_getD {l : List Vl} {j : Nat} (h : j < l.length) : l.drop j = l.getD j Vl.z :: l.drop (j + 1) := by
  rw [List.drop_eq_getElem_cons h]; simp [List.getD, h]
theorem cmpL_go {l l' : List Vl} {j : Nat} (h : j < l.length) (h' : j < l'.length) (hz : cmpW (l.getD j Vl.z) (l'.getD j Vl.z) = 0) : cmpL (l.drop j) (l'.drop j) = cmpL (l.drop (j + 1)) (l'.drop (j + 1)) := by
  rw [drop_getD h, drop_getD h', cmpL, if_pos hz]
theorem cmpL_stop {l l' : List Vl} {j : Nat} (h : j < l.length) (h' : j < l'.length) (hz : ¬ cmpW (l.getD j Vl.z) (l'.getD j Vl.z) = 0) : cmpL (l.drop j) (l'.drop j) = cmpW (l.getD j Vl.z) (l'.getD j Vl.z) := by
  rw [drop_getD h, drop_getD h', cmpL, if_neg hz]
theorem cmpL_end {l l' : List Vl} {j : Nat} (h : j ≤ l.length) (h' : j ≤ l'.length) (he : j = l.length ∨ j = l'.length) : cmpL (l.drop j) (l'.drop j) = cmpI l.length l'.length := by
  unfold cmpI
  rcases Nat.lt_or_ge j l.length with h1 | h1
  · have h2 : j = l'.length := by omega
    rw [drop_getD h1, List.drop_of_length_le (by omega : l'.length ≤ j), cmpL, if_neg (by omega), if_pos (by omega)]
  · rw [List.drop_of_length_le h1]
    rcases Nat.lt_or_ge j l'.length with h2 | h2
    · rw [drop_getD h2, cmpL, if_pos (by omega)]
    · rw [List.drop_of_length_le h2, cmpL, if_neg (by omega), if_neg (by omega)]
set_option maxHeartbeats 2000000 in
theorem rCompareRows_calls (a : Option Addr) (len cap : Nat) (l : List Vl) (a' : Option Addr) (len' cap' : Nat) (l' : List Vl) (w : World) (h : Holds w a len l) (h' : Holds w a' len' l') (hm : len ≤ cap) (hm' : len' ≤ cap') (hc : cap ≤ maxLen) (hc' : cap' ≤ maxLen) :
    Calls Tryd.prog 115 #[.slice a len cap, .slice a' len' cap'] w fun e w' => e = .returned (.int .i64 (cmpL l l')) ∧ Cls w w' := by
  unfold maxLen at hc hc'
  go_enter Tryd.func115, Tryd.ntmps115
  go_wp2_with fail
  go_loopw [5, 6] (fun i c wr => ∃ j : Nat, j ≤ len ∧ j ≤ len' ∧ i = .int .i64 j ∧ cmpL l l' = cmpL (l.drop j) (l'.drop j) ∧ Cls w wr) (fun i _ _ => len - (intOf i).toNat)
  case atStart => exact ⟨0, Nat.zero_le _, Nat.zero_le _, rfl, rfl, Cls.of (Below.refl _ _)⟩
  case round =>
    obtain ⟨j, hj, hj', rfl, he, x, rfl⟩ := hrel
    obtain ⟨hl, hh⟩ := h
    obtain ⟨hl', hh'⟩ := h'
    have HL := Lib.hid hl
    have HL' := Lib.hid hl'
    have HE := Lib.hid he
    clear he hl hl'
    by_cases h1 : j < len
    · by_cases h2 : j < len'
      · obtain ⟨b, off, ea, hb, hcell⟩ := hh.resolve_left (by omega)
        obtain ⟨b', off', ea', hb', hcell'⟩ := hh'.resolve_left (by omega)
        obtain ⟨q0, q1, q2⟩ := hcell j h1
        obtain ⟨q0', q1', q2'⟩ := hcell' j h2
        subst ea ea'
        clear hcell hcell' hh hh'
        cases hz : ((cmpV (l.getD j Vl.z).k (l.getD j Vl.z).n (l.getD j Vl.z).s (l'.getD j Vl.z).k (l'.getD j Vl.z).n (l'.getD j Vl.z).s) != 0)
        · have HG : Hid (cmpL l l' = cmpL (l.drop (j + 1)) (l'.drop (j + 1))) := by
            have hz0 : cmpW (l.getD j Vl.z) (l'.getD j Vl.z) = 0 := by simpa [cmpW, bne] using hz
            exact HE.out.trans (cmpL_go (by rw [HL.out]; exact h1) (by rw [HL'.out]; exact h2) hz0)
          generalize l.getD j Vl.z = u at *
          generalize l'.getD j Vl.z = v at *
          go_wp2_with fail
          refine wp_region_on (by kernel_rfl) (by kernel_rfl) ?_
          repeat (go_big_quiet_step ((go_at_call 94; exact Cls.call (rCompare_calls _ _ _ _ _ _ _))))
          refine wpQuiet_nil ?_
          rintro _ ⟨y, rfl⟩
          go_wp2_with fail
          go_roundw
          case rel => exact ⟨j + 1, by omega, by omega, by go_num, HG.out, y, rfl⟩
          case measure => simp [intOf]; omega
        · have HG : Hid (cmpL l l' = cmpV (l.getD j Vl.z).k (l.getD j Vl.z).n (l.getD j Vl.z).s (l'.getD j Vl.z).k (l'.getD j Vl.z).n (l'.getD j Vl.z).s) := by
            have hz0 : ¬ cmpW (l.getD j Vl.z) (l'.getD j Vl.z) = 0 := by simpa [cmpW, bne] using hz
            exact HE.out.trans (cmpL_stop (by rw [HL.out]; exact h1) (by rw [HL'.out]; exact h2) hz0)
          generalize l.getD j Vl.z = u at *
          generalize l'.getD j Vl.z = v at *
          go_wp2_with fail
          refine wp_region_on (by kernel_rfl) (by kernel_rfl) ?_
          repeat (go_big_quiet_step ((go_at_call 94; exact Cls.call (rCompare_calls _ _ _ _ _ _ _))))
          refine wpQuiet_nil ?_
          rintro _ ⟨y, rfl⟩
          go_wp2_with fail
          go_ret
          exact ⟨ret_int HG.out.symm, y, rfl⟩
      · have HG : Hid (cmpL l l' = cmpI len len') := by
          have := cmpL_end (l := l) (l' := l') (j := j) (by rw [HL.out]; omega) (by rw [HL'.out]; omega) (by rw [HL'.out]; omega)
          rw [HL.out, HL'.out] at this
          exact HE.out.trans this
        clear hh hh'
        go_wp2_with fail
        all_goals
          go_ret
          refine ⟨ret_int ?_, x, rfl⟩
          rw [HG.out]
          try (unfold cmpI; split <;> (try split) <;> omega)
    · have HG : Hid (cmpL l l' = cmpI len len') := by
        have := cmpL_end (l := l) (l' := l') (j := j) (by rw [HL.out]; omega) (by rw [HL'.out]; omega) (by rw [HL.out]; omega)
        rw [HL.out, HL'.out] at this
        exact HE.out.trans this
      clear hh hh'
      go_wp2_with fail
      all_goals
        go_ret
        refine ⟨ret_int ?_, x, rfl⟩
        rw [HG.out]
        try (unfold cmpI; split <;> (try split) <;> omega)
/-- The cells of a list of values. -/
def flatV : List Vl → List Value
  | [] => []
  | u :: l => .int .i64 u.k :: .int .i64 u.n :: .string u.s :: flatV l
theorem flatV_length (l : List Vl) : (flatV l).length = l.length * 3 := by
  induction l with
  | nil => rfl
  | cons u l ih => simp [flatV, ih]; omega
theorem flatV_at (l : List Vl) : ∀ i, i < l.length → (flatV l)[i * 3]? = some (.int .i64 (l.getD i Vl.z).k) ∧ (flatV l)[i * 3 + 1]? = some (.int .i64 (l.getD i Vl.z).n) ∧ (flatV l)[i * 3 + 2]? = some (.string (l.getD i Vl.z).s) := by
  induction l with
  | nil => intro i h; simp at h
  | cons u l ih =>
    intro i h
    cases i with
    | zero => simp [flatV]
    | succ i =>
      have h2 := ih i (by simpa using h)
      rw [show (i + 1) * 3 = i * 3 + 3 by omega]
      simpa [flatV, List.getD] using h2
theorem flatV_one (l : List Vl) : ∀ u ∈ flatV l, u.oneCell' = true := by
  induction l with
  | nil => intro u h; simp [flatV] at h
  | cons x l ih =>
    intro u h
    simp only [flatV, List.mem_cons] at h
    rcases h with rfl | rfl | rfl | h
    · rfl
    · rfl
    · rfl
    · exact ih u h
theorem Holds.flat {w : World} {b off len : Nat} {l : List Vl} (h : ∀ i, i < len → w.cell? ⟨b, off + i * 3, none⟩ = some (.int .i64 (l.getD i Vl.z).k) ∧ w.cell? ⟨b, off + i * 3 + 1, none⟩ = some (.int .i64 (l.getD i Vl.z).n) ∧ w.cell? ⟨b, off + i * 3 + 2, none⟩ = some (.string (l.getD i Vl.z).s)) (hl : l.length = len) :
    ∀ j u, (flatV l)[j]? = some u → w.cell? ((⟨b, off, none⟩ : Addr).add j) = some u := by
  intro j u hj
  have hjl : j < len * 3 := by
    have := (List.getElem?_eq_some_iff.1 hj).1
    rw [flatV_length, hl] at this
    exact this
  have hadd : (⟨b, off, none⟩ : Addr).add j = ⟨b, off + j, none⟩ := by unfold Addr.add; split <;> simp_all
  rw [hadd]
  obtain ⟨f0, f1, f2⟩ := flatV_at l (j / 3) (by omega)
  obtain ⟨g0, g1, g2⟩ := h (j / 3) (by omega)
  have h3 : j % 3 = 0 ∨ j % 3 = 1 ∨ j % 3 = 2 := by omega
  rcases h3 with h3 | h3 | h3
  · have e : j / 3 * 3 = j := by omega
    rw [e] at f0 g0
    rw [hj] at f0
    rw [g0, ← f0]
  · have e : j / 3 * 3 + 1 = j := by omega
    rw [e] at f1
    rw [Nat.add_assoc, e] at g1
    rw [hj] at f1
    rw [g1, ← f1]
  · have e : j / 3 * 3 + 2 = j := by omega
    rw [e] at f2
    rw [Nat.add_assoc, e] at g2
    rw [hj] at f2
    rw [g2, ← f2]
/-- A row of one's own that holds these cells, as a slice that holds these values. -/
theorem Holds.own {w : World} {base n : Nat} {v : Value} {l : List Vl} (h : w.ownsRow base 39 3 v n (flatV l)) : ∃ a cap, v = .slice a n cap ∧ n ≤ cap ∧ cap ≤ maxLen ∧ Holds w a n l := by
  have hlen : l.length = n := by have := h.1; rw [flatV_length] at this; omega
  rcases h.2 with ⟨rfl, h0⟩ | ⟨g, cap, cur, rfl, hb, hh, hn, hc, hs, ht⟩
  · subst h0; exact ⟨none, 0, rfl, Nat.le_refl _, Nat.zero_le _, hlen, .inl rfl⟩
  · refine ⟨some ⟨g, 0, none⟩, cap, rfl, hn, hc, hlen, ?_⟩
    by_cases h0 : n = 0
    · exact .inl h0
    · right
      refine ⟨g, 0, rfl, (Array.getElem?_eq_some_iff.1 hh).1, fun i hi => ?_⟩
      have hcell := World.ownsRow.cells h (g := g) rfl
      obtain ⟨f0, f1, f2⟩ := flatV_at l i (by omega)
      have c0 := hcell _ _ f0
      have c1 := hcell _ _ f1
      have c2 := hcell _ _ f2
      have hadd : ∀ j, (⟨g, 0, none⟩ : Addr).add j = ⟨g, 0 + j, none⟩ := fun j => by unfold Addr.add; split <;> simp_all
      rw [hadd] at c0 c1 c2
      exact ⟨c0, c1, c2⟩
theorem cmpW_self (a : Vl) : cmpW a a = 0 := cmpV_self _ _ _
theorem cmpW_neg (a b : Vl) : cmpW b a = -cmpW a b := cmpV_neg _ _ _ _ _ _
theorem cmpW_zero {a b : Vl} (h : cmpW a b = 0) : a = b := by
  obtain ⟨h1, h2, h3⟩ := cmpV_zero h
  cases a; cases b; simp_all
theorem cmpW_trans {a b c : Vl} (h : cmpW a b ≤ 0) (h' : cmpW b c ≤ 0) : cmpW a c ≤ 0 := cmpV_trans h h'
theorem cmpL_self : ∀ l : List Vl, cmpL l l = 0
  | [] => rfl
  | a :: l => by rw [cmpL, if_pos (cmpW_self a), cmpL_self l]
theorem cmpL_neg : ∀ l m : List Vl, cmpL m l = -cmpL l m
  | [], [] => rfl
  | [], _ :: _ => rfl
  | _ :: _, [] => rfl
  | a :: l, b :: m => by
    rw [cmpL, cmpL, cmpW_neg a b]
    by_cases h : cmpW a b = 0
    · rw [if_pos h, if_pos (by omega), cmpL_neg l m]
    · rw [if_neg h, if_neg (by omega)]
theorem cmpL_zero : ∀ {l m : List Vl}, cmpL l m = 0 → l = m
  | [], [], _ => rfl
  | [], _ :: _, h => by simp [cmpL] at h
  | _ :: _, [], h => by simp [cmpL] at h
  | a :: l, b :: m, h => by
    rw [cmpL] at h
    by_cases h0 : cmpW a b = 0
    · rw [if_pos h0] at h
      rw [cmpW_zero h0, cmpL_zero h]
    · rw [if_neg h0] at h
      exact absurd h h0
theorem cmpL_trans : ∀ {l m k : List Vl}, cmpL l m ≤ 0 → cmpL m k ≤ 0 → cmpL l k ≤ 0
  | [], _, [], _, _ => by simp [cmpL]
  | [], _, _ :: _, _, _ => by simp [cmpL]
  | _ :: _, [], _, h, _ => by simp [cmpL] at h
  | _ :: _, _ :: _, [], _, h => by simp [cmpL] at h
  | a :: l, b :: m, c :: k, h, h' => by
    rw [cmpL] at *
    by_cases h1 : cmpW a b = 0
    · obtain rfl := cmpW_zero h1
      rw [if_pos h1] at h
      by_cases h2 : cmpW a c = 0
      · rw [if_pos h2] at h' ⊢
        exact cmpL_trans h h'
      · rw [if_neg h2] at h' ⊢
        exact h'
    · rw [if_neg h1] at h
      by_cases h2 : cmpW b c = 0
      · obtain rfl := cmpW_zero h2
        rw [if_neg h1]; exact h
      · rw [if_neg h2] at h'
        have h3 := cmpW_trans h h'
        by_cases h4 : cmpW a c = 0
        · obtain rfl := cmpW_zero h4
          have := cmpW_neg a b
          omega
        · rw [if_neg h4]; exact h3
theorem cmpL_lt_le {l m k : List Vl} (h : cmpL l m < 0) (h' : cmpL m k ≤ 0) : cmpL l k < 0 := by
  have h1 := cmpL_trans (by omega : cmpL l m ≤ 0) h'
  rcases Int.lt_or_eq_of_le h1 with h2 | h2
  · exact h2
  · obtain rfl := cmpL_zero h2
    have := cmpL_neg l m
    omega
/-- Two rows are the same if they are equal. -/
instance decRow : DecidableEq (List Vl) := fun a b => decidable_of_iff (cmpL a b = 0) ⟨cmpL_zero, fun h => h ▸ cmpL_self a⟩
abbrev Row := List Vl
instance (priority := 100000) rowBEq : BEq (List Vl) := instBEqOfDecidableEq
instance (priority := 100000) rowLaw : LawfulBEq (List Vl) := inferInstanceAs (@LawfulBEq (List Vl) instBEqOfDecidableEq)
/-- The rows ascend. -/
def Asc (l : List Row) : Prop := l.Pairwise fun a b => cmpL a b ≤ 0
theorem asc_unique : ∀ {l l' : List Row}, Asc l → Asc l' → (∀ r, l.count r = l'.count r) → l = l'
  | [], [], _, _, _ => rfl
  | [], b :: l', _, _, h => by have := h b; simp at this
  | a :: l, [], _, _, h => by have := h a; simp at this
  | a :: l, b :: l', ha, hb, h => by
    have e : a = b := by
      have h1 : b ∈ a :: l := by
        have := h b
        apply List.count_pos_iff.1
        rw [this]; simp
      have h2 : a ∈ b :: l' := by
        have := h a
        apply List.count_pos_iff.1
        rw [← this]; simp
      rcases List.mem_cons.1 h1 with e | m1
      · exact e.symm
      · rcases List.mem_cons.1 h2 with e | m2
        · exact e
        · have q1 := (List.pairwise_cons.1 ha).1 b m1
          have q2 := (List.pairwise_cons.1 hb).1 a m2
          have := cmpL_neg a b
          exact cmpL_zero (by omega)
    subst e
    rw [asc_unique (List.pairwise_cons.1 ha).2 (List.pairwise_cons.1 hb).2 (fun r => by have := h r; simp only [List.count_cons] at this; omega)]
theorem len_of_count_le : ∀ {l s : List Row}, (∀ r, l.count r ≤ s.count r) → l.length ≤ s.length
  | [], s, _ => by simp
  | a :: l, s, h => by
    have hm : a ∈ s := List.count_pos_iff.1 (by have := h a; rw [List.count_cons_self] at this; omega)
    have := len_of_count_le (l := l) (s := s.erase a) (fun r => by
      have := h r
      rw [List.count_cons] at this
      rw [List.count_erase]
      have e : (a == r) = (r == a) := by simp only [BEq.comm]
      split at this <;> simp_all <;> omega)
    rw [List.length_erase_of_mem hm] at this
    have := List.length_pos_of_mem hm
    simp; omega
/-- How often a row occurs in two bags. -/
structure Tl where
  r : Row
  m : Nat
  n : Nat
/-- The tallies of A and B. -/
def TalOf (A B : List Row) (T : List Tl) : Prop :=
  T.Pairwise (fun s t => cmpL s.r t.r < 0) ∧ (∀ t ∈ T, t.m = A.count t.r ∧ t.n = B.count t.r) ∧ ∀ r, 0 < A.count r + B.count r → ∃ t ∈ T, t.r = r
/-- .. on the way: X and Y are what is left of A and B. -/
structure TalIn (A B : List Row) (T : List Tl) (X Y : List Row) : Prop where
  up : T.Pairwise (fun s t => cmpL s.r t.r < 0)
  cnt : ∀ t ∈ T, t.m = A.count t.r ∧ t.n = B.count t.r
  below : ∀ t ∈ T, ∀ x, x ∈ X ∨ x ∈ Y → cmpL t.r x < 0
  all : ∀ r, 0 < A.count r + B.count r → (∃ t ∈ T, t.r = r) ∨ r ∈ X ∨ r ∈ Y
  left : ∀ r, r ∈ X ∨ r ∈ Y → A.count r = X.count r ∧ B.count r = Y.count r
  ascX : Asc X
  ascY : Asc Y
theorem TalIn.start {A B X Y : List Row} (hA : X.Perm A) (hB : Y.Perm B) (aX : Asc X) (aY : Asc Y) : TalIn A B [] X Y where
  up := List.Pairwise.nil
  cnt := fun t h => by cases h
  below := fun t h => by cases h
  all := fun r h => by
    right
    rw [← hA.count_eq, ← hB.count_eq] at h
    by_cases h1 : 0 < X.count r
    · exact .inl (List.count_pos_iff.1 h1)
    · exact .inr (List.count_pos_iff.1 (by omega))
  left := fun r _ => ⟨(hA.count_eq r).symm, (hB.count_eq r).symm⟩
  ascX := aX
  ascY := aY
theorem TalIn.done {A B : List Row} {T : List Tl} (h : TalIn A B T [] []) : TalOf A B T :=
  ⟨h.up, h.cnt, fun r hr => by rcases h.all r hr with h | h | h <;> first | exact h | cases h⟩
/-- The rows ahead that are the same as r. -/
def lead (X : List Row) (r : Row) : Nat := (X.takeWhile fun x => decide (x = r)).length
theorem lead_drop {X : List Row} {r : Row} (hX : Asc X) (hr : ∀ x ∈ X, cmpL r x ≤ 0) : lead X r = X.count r ∧ ∀ x ∈ X.drop (lead X r), cmpL r x < 0 := by
  induction X with
  | nil => simp [lead]
  | cons a X ih =>
    obtain ⟨h1, h2⟩ := List.pairwise_cons.1 hX
    by_cases e : a = r
    · subst e
      obtain ⟨i1, i2⟩ := ih h2 (fun x hx => hr x (List.mem_cons_of_mem _ hx))
      have : lead (a :: X) a = lead X a + 1 := by simp [lead]
      rw [this]
      exact ⟨by rw [List.count_cons_self, i1], by simpa using i2⟩
    · have hl : lead (a :: X) r = 0 := by simp [lead, e]
      have hlt : cmpL r a < 0 := by
        rcases Int.lt_or_eq_of_le (hr a (by simp)) with h | h
        · exact h
        · exact absurd (cmpL_zero h).symm e
      have hall : ∀ x ∈ a :: X, cmpL r x < 0 := fun x hx => by
        rcases List.mem_cons.1 hx with rfl | hx
        · exact hlt
        · exact cmpL_lt_le hlt (h1 x hx)
      rw [hl]
      refine ⟨(List.count_eq_zero.2 fun hm => ?_).symm, by simpa using hall⟩
      have := hall r hm
      rw [cmpL_self] at this
      omega
theorem count_drop_lt {X : List Row} {r x : Row} (hX : Asc X) (hr : ∀ x ∈ X, cmpL r x ≤ 0) (h : cmpL r x < 0) : (X.drop (lead X r)).count x = X.count x := by
  have ht : X.take (lead X r) = X.takeWhile fun x => decide (x = r) := by
    unfold lead
    exact (List.prefix_iff_eq_take.1 (List.takeWhile_prefix _)).symm
  have e := List.take_append_drop (lead X r) X
  have : X.count x = (X.take (lead X r)).count x + (X.drop (lead X r)).count x := by rw [← List.count_append, e]
  have hz : (X.takeWhile fun x => decide (x = r)).count x = 0 := by
    refine List.count_eq_zero.2 fun hm => ?_
    have := List.all_takeWhile (p := fun x => decide (x = r)) (l := X)
    have := List.all_eq_true.1 this x hm
    obtain rfl : x = r := by simpa using this
    rw [cmpL_self] at h
    omega
  rw [this, ht, hz, Nat.zero_add]
/-- One round: the least row r of both. -/
theorem TalIn.step {A B : List Row} {T : List Tl} {X Y : List Row} (h : TalIn A B T X Y) {r : Row} (hr : r ∈ X ∨ r ∈ Y) (hx : ∀ x ∈ X, cmpL r x ≤ 0) (hy : ∀ x ∈ Y, cmpL r x ≤ 0) :
    TalIn A B (T ++ [⟨r, lead X r, lead Y r⟩]) (X.drop (lead X r)) (Y.drop (lead Y r)) := by
  obtain ⟨x1, x2⟩ := lead_drop h.ascX hx
  obtain ⟨y1, y2⟩ := lead_drop h.ascY hy
  have sub : ∀ x, x ∈ X.drop (lead X r) ∨ x ∈ Y.drop (lead Y r) → (x ∈ X ∨ x ∈ Y) ∧ cmpL r x < 0 := fun x hx => by
    rcases hx with hx | hx
    · exact ⟨.inl (List.mem_of_mem_drop hx), x2 x hx⟩
    · exact ⟨.inr (List.mem_of_mem_drop hx), y2 x hx⟩
  obtain ⟨l1, l2⟩ := h.left r hr
  constructor
  · rw [List.pairwise_append]
    refine ⟨h.up, List.pairwise_singleton _ _, fun t ht s hs => ?_⟩
    obtain rfl := List.mem_singleton.1 hs
    exact h.below t ht r hr
  · intro t ht
    rcases List.mem_append.1 ht with ht | ht
    · exact h.cnt t ht
    · obtain rfl := List.mem_singleton.1 ht
      exact ⟨x1.trans l1.symm, y1.trans l2.symm⟩
  · intro t ht x hx
    obtain ⟨s1, s2⟩ := sub x hx
    rcases List.mem_append.1 ht with ht | ht
    · exact h.below t ht x s1
    · obtain rfl := List.mem_singleton.1 ht
      exact s2
  · intro q hq
    rcases h.all q hq with ⟨t, ht, e⟩ | hm
    · exact .inl ⟨t, List.mem_append.2 (.inl ht), e⟩
    · by_cases e : q = r
      · exact .inl ⟨⟨r, lead X r, lead Y r⟩, by simp, e.symm⟩
      · right
        rcases hm with hm | hm
        · left
          have hlt : cmpL r q < 0 := by
            rcases Int.lt_or_eq_of_le (hx q hm) with h | h
            · exact h
            · exact absurd (cmpL_zero h).symm e
          rw [← List.count_pos_iff, count_drop_lt h.ascX hx hlt]
          exact List.count_pos_iff.2 hm
        · right
          have hlt : cmpL r q < 0 := by
            rcases Int.lt_or_eq_of_le (hy q hm) with h | h
            · exact h
            · exact absurd (cmpL_zero h).symm e
          rw [← List.count_pos_iff, count_drop_lt h.ascY hy hlt]
          exact List.count_pos_iff.2 hm
  · intro q hq
    obtain ⟨s1, s2⟩ := sub q hq
    obtain ⟨q1, q2⟩ := h.left q s1
    exact ⟨by rw [count_drop_lt h.ascX hx s2]; exact q1, by rw [count_drop_lt h.ascY hy s2]; exact q2⟩
  · exact h.ascX.sublist (List.drop_sublist _ _)
  · exact h.ascY.sublist (List.drop_sublist _ _)
/-- What a tally becomes: each row as often as f says. -/
def comb (f : Nat → Nat → Nat) (T : List Tl) : List Row := T.flatMap fun t => List.replicate (f t.m t.n) t.r
/-- R has each row as often as f says, and ascends. -/
def CombOf (f : Nat → Nat → Nat) (A B R : List Row) : Prop := Asc R ∧ ∀ r, R.count r = f (A.count r) (B.count r)
theorem comb_asc (f : Nat → Nat → Nat) : ∀ {T : List Tl}, T.Pairwise (fun s t => cmpL s.r t.r < 0) → Asc (comb f T)
  | [], _ => List.Pairwise.nil
  | t :: T, h => by
    obtain ⟨h1, h2⟩ := List.pairwise_cons.1 h
    rw [comb, List.flatMap_cons]
    refine List.pairwise_append.2 ⟨?_, comb_asc f h2, fun a ha b hb => ?_⟩
    · rw [List.pairwise_replicate]
      right; rw [cmpL_self]; omega
    · obtain ⟨_, rfl⟩ := List.mem_replicate.1 ha
      obtain ⟨s, hs, hb⟩ := List.mem_flatMap.1 hb
      obtain ⟨_, rfl⟩ := List.mem_replicate.1 hb
      have := h1 s hs; omega
theorem comb_count_no (f : Nat → Nat → Nat) {T : List Tl} {r : Row} (h : ∀ t ∈ T, t.r ≠ r) : (comb f T).count r = 0 := by
  rw [List.count_eq_zero]
  intro hm
  obtain ⟨s, hs, hb⟩ := List.mem_flatMap.1 hm
  obtain ⟨_, rfl⟩ := List.mem_replicate.1 hb
  exact h s hs rfl
theorem comb_count (f : Nat → Nat → Nat) : ∀ {T : List Tl}, T.Pairwise (fun s t => cmpL s.r t.r < 0) → ∀ t ∈ T, (comb f T).count t.r = f t.m t.n
  | [], _, t, ht => by cases ht
  | u :: T, h, t, ht => by
    obtain ⟨h1, h2⟩ := List.pairwise_cons.1 h
    rw [comb, List.flatMap_cons, List.count_append]
    rcases List.mem_cons.1 ht with rfl | ht
    · have := comb_count_no f (T := T) (r := t.r) (fun s hs e => by have := h1 s hs; rw [e, cmpL_self] at this; omega)
      rw [comb] at this
      rw [this, List.count_replicate_self]; rfl
    · have := comb_count f h2 t ht
      rw [comb] at this
      have hne : u.r ≠ t.r := fun e => by have := h1 t ht; rw [e, cmpL_self] at this; omega
      rw [this, List.count_replicate, if_neg (by simpa using hne), Nat.zero_add]
theorem TalOf.comb {A B : List Row} {T : List Tl} (h : TalOf A B T) (f : Nat → Nat → Nat) (h0 : f 0 0 = 0) : CombOf f A B (comb f T) := by
  refine ⟨comb_asc f h.1, fun r => ?_⟩
  by_cases hr : 0 < A.count r + B.count r
  · obtain ⟨t, ht, rfl⟩ := h.2.2 r hr
    rw [comb_count f h.1 t ht, (h.2.1 t ht).1, (h.2.1 t ht).2]
  · have hA : A.count r = 0 := by omega
    have hB : B.count r = 0 := by omega
    rw [hA, hB, h0]
    by_cases hx : ∃ t ∈ T, t.r = r
    · obtain ⟨t, ht, rfl⟩ := hx
      rw [comb_count f h.1 t ht, (h.2.1 t ht).1, (h.2.1 t ht).2, hA, hB, h0]
    · exact comb_count_no f (fun t ht e => hx ⟨t, ht, e⟩)
theorem CombOf.le {f : Nat → Nat → Nat} {A B R : List Row} (h : CombOf f A B R) (hf : ∀ m n, f m n ≤ m + n) : R.length ≤ A.length + B.length := by
  have := len_of_count_le (l := R) (s := A ++ B) (fun r => by rw [h.2 r, List.count_append]; exact hf _ _)
  simpa using this
/-- A later world in which all that lay in w is as it was, and no fewer draws were made. -/
structure ExtD (w : World) where
  val : World
  below : Below w.heap.size w val
  drawn : w.drawn ≤ val.drawn
instance (w : World) : Nonempty (ExtD w) := ⟨⟨w, Below.refl _ w, Nat.le_refl _⟩⟩
namespace ExtD
@[go_sem] theorem cell {w : World} (x : ExtD w) {b : Nat} (o : Nat) (h : b < w.heap.size) : x.val.cell? ⟨b, o, none⟩ = w.cell? ⟨b, o, none⟩ := x.below.cell (p := ⟨b, o, none⟩) h
@[go_sem] theorem frozen {w : World} (x : ExtD w) {b : Nat} (o : Nat) (h : b < w.heap.size) : x.val.frozen? ⟨b, o, none⟩ = w.frozen? ⟨b, o, none⟩ := x.below.frozen (p := ⟨b, o, none⟩) h
theorem size {w : World} (x : ExtD w) : w.heap.size ≤ x.val.heap.size := x.below.size
end ExtD
/-- w' is a later world than w. -/
def ClsD (w w' : World) : Prop := ∃ x : ExtD w, w' = x.val
namespace ClsD
theorem of {w w' : World} (h : Below w.heap.size w w') (hd : w.drawn ≤ w'.drawn) : ClsD w w' := ⟨⟨w', h, hd⟩, rfl⟩
theorem below {w w' : World} (h : ClsD w w') : Below w.heap.size w w' := by obtain ⟨x, rfl⟩ := h; exact x.below
theorem drawn {w w' : World} (h : ClsD w w') : w.drawn ≤ w'.drawn := by obtain ⟨x, rfl⟩ := h; exact x.drawn
theorem start (w : World) : ClsD w { w with drawn := w.drawn + 1 } := of (Below.refl _ w).drew (Nat.le_succ _)
theorem step {w : World} (x : ExtD w) {w' : World} (h : ClsD x.val w') : ClsD w w' := of (x.below.trans (h.below.mono x.size)) (Nat.le_trans x.drawn h.drawn)
theorem call {P : Program} {f : FuncId} {args : Array Value} {w : World} {x : ExtD w} {v : Value}
    (h : Calls P f args x.val fun e w' => e = .returned v ∧ ClsD x.val w') : Calls P f args x.val fun e w'' => e = .returned v ∧ ∃ y : ExtD w, w'' = y.val :=
  h.mono fun _ _ ⟨he, hm⟩ => ⟨he, step x hm⟩
theorem grown {w w' : World} (h : ClsD w w') : ∃ q os, w' = grow (w.drewN q) os := by
  have b := h.below
  have d := h.drawn
  refine ⟨w'.drawn - w.drawn, w'.heap.extract w.heap.size w'.heap.size, ?_⟩
  have hh : w'.heap = w.heap ++ w'.heap.extract w.heap.size w'.heap.size := by
    apply Array.ext_getElem?
    intro k
    have hs := b.size
    by_cases hk : k < w.heap.size
    · rw [Array.getElem?_append_left hk, b.block k hk]
    · rw [Array.getElem?_append_right (by omega), Array.getElem?_extract]
      by_cases hk2 : k < w'.heap.size
      · rw [if_pos (by omega), show w.heap.size + (k - w.heap.size) = k by omega]
      · rw [if_neg (by omega), Array.getElem?_eq_none (by omega)]
  have hd : w'.drawn = w.drawn + (w'.drawn - w.drawn) := by omega
  obtain ⟨h1, h2, h3, _, _⟩ := b
  show w' = { heap := w.heap ++ w'.heap.extract w.heap.size w'.heap.size, tape := w.tape, drawn := w.drawn + (w'.drawn - w.drawn), os := w.os, output := w.output }
  rw [← hh, ← hd, ← h1, ← h2, ← h3]
end ClsD
theorem Compare_D (k n : Int) (s : ByteArray) (k' n' : Int) (s' : ByteArray) (w : World) :
    Calls Tryd.prog 111 #[.agg #[.int .i64 k, .int .i64 n, .string s], .agg #[.int .i64 k', .int .i64 n', .string s']] w fun e w' => e = .returned (.int .i64 (cmpV k n s k' n' s')) ∧ ClsD w w' := by
  go_enter Tryd.func111, Tryd.ntmps111
  go_wp2_with (first | (go_at_call 140; refine (cmpInt_calls _ _ _).mono ?_; rintro e _ ⟨rfl, rfl⟩) | (go_at_call 141; refine (cmpInt64_calls _ _ _).mono ?_; rintro e _ ⟨rfl, rfl⟩) | (go_at_call 142; refine (cmpStr_calls _ _ _).mono ?_; rintro e _ ⟨rfl, rfl⟩))
  all_goals
    go_ret
    refine ⟨ret_int ?_, ClsD.of (((Below.refl _ _).alloc (Nat.le_refl _) _).alloc (by simp) _) (Nat.le_refl _)⟩
    simp_all [cmpV]
/-- A row as a slice, and what it holds. -/
structure Rw where
  a : Option Addr
  len : Nat
  cap : Nat
  vs : List Vl
instance : Inhabited Rw := ⟨⟨none, 0, 0, []⟩⟩
def Rw.enc (r : Rw) : Value := .slice r.a r.len r.cap
structure Rw.Ok (w : World) (r : Rw) : Prop where
  holds : Holds w r.a r.len r.vs
  le : r.len ≤ r.cap
  cap : r.cap ≤ maxLen
  small : r.len ≤ 10000
theorem Rw.Ok.later {w w' : World} {r : Rw} (h : r.Ok w) (hb : Below w.heap.size w w') : r.Ok w' := ⟨h.holds.later hb, h.le, h.cap, h.small⟩
theorem Rw.Ok.nil (w : World) : (default : Rw).Ok w := ⟨⟨rfl, .inl rfl⟩, Nat.le_refl _, Nat.zero_le _, Nat.zero_le _⟩
def flatR (l : List Rw) : List Value := l.map Rw.enc
def vss (l : List Rw) : List Row := l.map (·.vs)
/-- The slice holds these rows. -/
structure Rws (w : World) (a : Option Addr) (len : Nat) (l : List Rw) : Prop where
  ln : l.length = len
  ok : ∀ r ∈ l, r.Ok w
  at_ : len = 0 ∨ ∃ b off, a = some ⟨b, off, none⟩ ∧ b < w.heap.size ∧ ∀ i, i < len → w.cell? ⟨b, off + i, none⟩ = some (l.getD i default).enc
theorem Rws.later {w w' : World} {a : Option Addr} {len : Nat} {l : List Rw} (h : Rws w a len l) (hb : Below w.heap.size w w') : Rws w' a len l := by
  refine ⟨h.ln, fun r hr => (h.ok r hr).later hb, h.at_.imp id ?_⟩
  rintro ⟨b, off, ha, hlt, hc⟩
  exact ⟨b, off, ha, Nat.lt_of_lt_of_le hlt hb.size, fun i hi => by rw [hb.cell (p := ⟨b, _, none⟩) hlt]; exact hc i hi⟩
theorem Rws.nil (w : World) (a : Option Addr) : Rws w a 0 [] := ⟨rfl, (fun r hr => by cases hr), .inl rfl⟩
theorem Rws.get {w : World} {a : Option Addr} {len : Nat} {l : List Rw} (h : Rws w a len l) (i : Nat) : (l.getD i default).Ok w := by
  by_cases hi : i < l.length
  · have : l.getD i default = l[i] := by simp [List.getD, hi]
    rw [this]; exact h.ok _ (List.getElem_mem hi)
  · have : l.getD i default = default := by simp [List.getD, Nat.le_of_not_lt hi]
    rw [this]; exact Rw.Ok.nil w
/-- What is left behind the first m rows. -/
theorem Rws.drop {w : World} {b off len : Nat} {l : List Rw} (h : Rws w (some ⟨b, off, none⟩) len l) (m : Nat) (hm : m < len) : Rws w (some ⟨b, off + m, none⟩) (len - m) (l.drop m) := by
  refine ⟨by rw [List.length_drop, h.ln], fun r hr => h.ok r (List.mem_of_mem_drop hr), .inr ?_⟩
  obtain ⟨b', off', ha, hlt, hc⟩ := h.at_.resolve_left (by omega)
  obtain ⟨rfl, rfl⟩ : b = b' ∧ off = off' := by simpa using ha
  refine ⟨b, off + m, rfl, hlt, fun i hi => ?_⟩
  have := hc (m + i) (by omega)
  rw [show off + m + i = off + (m + i) by omega, this]
  congr 2
  simp [List.getD, List.getElem?_drop]
theorem flatR_length (l : List Rw) : (flatR l).length = l.length := by simp [flatR]
theorem flatR_one (l : List Rw) : ∀ u ∈ flatR l, u.oneCell' = true := by
  intro u hu
  obtain ⟨r, _, rfl⟩ := List.mem_map.1 hu
  rfl
theorem flatR_at {l : List Rw} {i : Nat} (h : i < l.length) : (flatR l)[i]? = some (l.getD i default).enc := by simp [flatR, List.getD, h]
/-- A row of one's own that holds these slices. -/
theorem Rws.own {w : World} {base n : Nat} {v : Value} {l : List Rw} (h : w.ownsRow base 32 1 v n (flatR l)) (hok : ∀ r ∈ l, r.Ok w) : ∃ a cap, v = .slice a n cap ∧ n ≤ cap ∧ cap ≤ maxLen ∧ Rws w a n l := by
  have hlen : l.length = n := by have := h.1; rw [flatR_length] at this; omega
  rcases h.2 with ⟨rfl, h0⟩ | ⟨g, cap, cur, rfl, hb, hh, hn, hc, hs, ht⟩
  · subst h0; exact ⟨none, 0, rfl, Nat.le_refl _, Nat.zero_le _, hlen, hok, .inl rfl⟩
  · refine ⟨some ⟨g, 0, none⟩, cap, rfl, hn, hc, hlen, hok, ?_⟩
    right
    refine ⟨g, 0, rfl, (Array.getElem?_eq_some_iff.1 hh).1, fun i hi => ?_⟩
    have hcell := World.ownsRow.cells h (g := g) rfl i _ (flatR_at (by omega))
    have hadd : ∀ j, (⟨g, 0, none⟩ : Addr).add j = ⟨g, 0 + j, none⟩ := fun j => by unfold Addr.add; split <;> simp_all
    rw [hadd] at hcell
    exact hcell
theorem infoV : (Tryd.prog.info? 39).map (fun i => (i.zero, i.size, i.bytes)) = some (some (.agg #[.int .i64 0, .int .i64 0, .string ⟨#[]⟩]), 3, 32) := by kernel_rfl
theorem infoR : (Tryd.prog.info? 32).map (fun i => (i.zero, i.size, i.bytes)) = some (some (.slice none 0 0), 1, 24) := by kernel_rfl
theorem Holds.cells {w : World} {x : Addr} {len : Nat} {l : List Vl} (h : Holds w (some x) len l) : ∀ j u, (flatV l)[j]? = some u → w.cell? (x.add j) = some u := by
  obtain ⟨hl, hh⟩ := h
  rcases hh with h0 | ⟨b, off, ha, _, hcell⟩
  · intro j u hj
    have := (List.getElem?_eq_some_iff.1 hj).1
    rw [flatV_length, hl, h0] at this
    omega
  · obtain rfl : x = ⟨b, off, none⟩ := by simpa using ha
    exact Holds.flat hcell hl
/-- Whether two rows are the same. -/
def sameR (r s : List Vl) : Bool := decide (r = s)
theorem sameR_cmp (r s : List Vl) : (cmpL r s == 0) = sameR r s := by
  unfold sameR
  by_cases h : r = s
  · subst h; simp [cmpL_self]
  · have : ¬ cmpL r s = 0 := fun e => h (cmpL_zero e)
    simp [h, this]
theorem lead_hit : ∀ {X : List Row} {r : Row} {j : Nat}, (∀ k, k < j → X.getD k [] = r) → j < X.length → X.getD j [] ≠ r → lead X r = j
  | [], _, _, _, h, _ => by simp at h
  | a :: X, r, 0, _, _, h => by
    have : ¬ a = r := by simpa using h
    simp [lead, this]
  | a :: X, r, j + 1, h, hl, hn => by
    have e : a = r := by simpa using h 0 (by omega)
    have := lead_hit (X := X) (r := r) (j := j) (fun k hk => by simpa using h (k + 1) (by omega)) (by simpa using hl) (by simpa using hn)
    subst e
    have e2 : lead (a :: X) a = lead X a + 1 := by simp [lead]
    omega
theorem lead_all : ∀ {X : List Row} {r : Row}, (∀ k, k < X.length → X.getD k [] = r) → lead X r = X.length
  | [], _, _ => rfl
  | a :: X, r, h => by
    have e : a = r := by simpa using h 0 (by simp)
    have := lead_all (X := X) (r := r) (fun k hk => by simpa using h (k + 1) (by simpa using hk))
    subst e
    have e2 : lead (a :: X) a = lead X a + 1 := by simp [lead]
    simp; omega
theorem vss_len (l : List Rw) : (vss l).length = l.length := by simp [vss]
theorem vss_getD (l : List Rw) (k : Nat) : (vss l).getD k [] = (l.getD k default).vs := by
  unfold vss
  by_cases h : k < l.length
  · simp [List.getD, h]
  · simp [List.getD, Nat.le_of_not_lt h]; rfl
section
variable {α : Type} [Inhabited α] (enc : α → Value)
theorem heap_put {w : World} {g n : Nat} {cur : Array Value} {e : TypeId} {fr : Nat × Nat} (d : Array α) (hb : w.heap[g]? = some (.cells cur e fr)) :
    (putRow enc (Sort.ahead w n) g 0 d).heap[g]? = some (.cells (putCells enc 0 d cur) e fr) := by
  simp [putRow, mapBlock, Sort.ahead, Array.getElem?_modify, hb, onCells]
theorem below_put {w : World} {base g n : Nat} (d : Array α) (hg : base ≤ g) : Below base w (putRow enc (Sort.ahead w n) g 0 d) := by
  refine ⟨rfl, rfl, rfl, by simp [putRow, mapBlock, Sort.ahead], fun k hk => ?_⟩
  have hne : g ≠ k := by omega
  simp [putRow, mapBlock, Sort.ahead, Array.getElem?_modify, hne]
theorem below_grow {base : Nat} {w w' : World} (h : Below base w w') (os : Array Obj) (hb : base ≤ w.heap.size) : Below base w (grow w' os) := by
  refine ⟨h.os, h.tape, h.output, Nat.le_trans h.size (by simp [grow]), fun k hk => ?_⟩
  rw [heap_grow_old _ _ (by have := h.size; omega)]
  exact h.block k hk
theorem holds_put {w : World} {g : Nat} {cur : Array Value} {e : TypeId} {xs : List α} (hb : w.heap[g]? = some (.cells cur e (0, 0))) (ht : cur.toList.take xs.length = xs.map enc) : Go.Sort.Holds enc w g 0 xs.toArray := by
  intro j hj
  have hj' : j < xs.length := by simpa using hj
  refine ⟨?_, by simp [World.frozen?, hb]⟩
  have h1 : (cur.toList.take xs.length)[j]? = (xs.map enc)[j]? := by rw [ht]
  rw [List.getElem?_take_of_lt hj'] at h1
  simp only [World.cell?, hb, Nat.zero_add]
  simp only [Option.isSome_none, Bool.false_eq_true, if_false]
  rw [← Array.getElem?_toList, h1]
  simp [hj']
end
theorem perm_of_in {α : Type} [Inhabited α] {d d' : Array α} (h : PermIn 0 d.size d d') : d'.toList.Perm d.toList := by
  obtain ⟨h1, _, h3⟩ := h
  have e1 : d'.extract 0 d.size = d' := by rw [← h1]; simp
  have e2 : d.extract 0 d.size = d := by simp
  rwa [e1, e2] at h3
theorem add_none (b off j : Nat) : (⟨b, off, none⟩ : Addr).add j = ⟨b, off + j, none⟩ := by unfold Addr.add; split <;> simp_all
theorem cells_new' (w : World) (l : List Value) (t : TypeId) : ∀ j u, l[j]? = some u → (w.alloc (.cells l.toArray t)).cell? ((⟨w.heap.size, 0, none⟩ : Addr).add j) = some u := by
  intro j u h
  rw [add_none, Nat.zero_add, cell_of_row _ _ _ l.toArray t (0, 0) (heap_alloc_new w _)]
  simpa using h
theorem own_later' {w w' : World} {base size n : Nat} {e : TypeId} {v : Value} {xs : List Value} (h : w.ownsRow base e size v n xs) (hb : Below w.heap.size w w') : w'.ownsRow base e size v n xs := by
  refine ⟨h.1, h.2.imp id ?_⟩
  rintro ⟨g, cap, cur, hv, hg, hh, rest⟩
  exact ⟨g, cap, cur, hv, hg, (hb.block g (Array.getElem?_eq_some_iff.1 hh).1).trans hh, rest⟩
/-- A tally as it lies. -/
structure Tr where
  row : Rw
  m : Nat
  n : Nat
instance : Inhabited Tr := ⟨⟨default, 0, 0⟩⟩
def Tr.tl (t : Tr) : Tl := ⟨t.row.vs, t.m, t.n⟩
def Tr.cells (t : Tr) : List Value := [t.row.enc, .int .i64 t.m, .int .i64 t.n]
def flatT (l : List Tr) : List Value := l.flatMap Tr.cells
theorem flatT_append (l m : List Tr) : flatT (l ++ m) = flatT l ++ flatT m := by simp [flatT]
theorem flatT_at (l : List Tr) : ∀ i, i < l.length → (flatT l)[i * 3]? = some (l.getD i default).row.enc ∧ (flatT l)[i * 3 + 1]? = some (.int .i64 (l.getD i default).m) ∧ (flatT l)[i * 3 + 2]? = some (.int .i64 (l.getD i default).n) := by
  induction l with
  | nil => intro i h; simp at h
  | cons a l ih =>
    intro i h
    cases i with
    | zero => simp [flatT, Tr.cells]
    | succ i =>
      obtain ⟨h0, h1, h2⟩ := ih i (by simpa using h)
      have e : flatT (a :: l) = a.cells ++ flatT l := by simp [flatT]
      have hl : a.cells.length = 3 := rfl
      rw [e, show (i + 1) * 3 = 3 + i * 3 by omega]
      refine ⟨?_, ?_, ?_⟩
      · rw [List.getElem?_append_right (by omega), hl, show 3 + i * 3 - 3 = i * 3 by omega, h0]; simp
      · rw [List.getElem?_append_right (by omega), hl, show 3 + i * 3 + 1 - 3 = i * 3 + 1 by omega, h1]; simp
      · rw [List.getElem?_append_right (by omega), hl, show 3 + i * 3 + 2 - 3 = i * 3 + 2 by omega, h2]; simp
/-- A slice of rows, of which an address is known. -/
def Sx (w : World) (v : Value) (n : Nat) (l : List Rw) : Prop := ∃ a c, v = .slice a n c ∧ Rws w a n l ∧ n ≤ c ∧ c ≤ maxLen ∧ ((a = none ∧ c = 0) ∨ ∃ b off, a = some ⟨b, off, none⟩)
theorem Sx.later {w w' : World} {v : Value} {n : Nat} {l : List Rw} (h : Sx w v n l) (hb : Below w.heap.size w w') : Sx w' v n l := by
  obtain ⟨a, c, h1, h2, h3⟩ := h
  exact ⟨a, c, h1, h2.later hb, h3⟩
theorem Tr.one (t : Tr) : ∀ u ∈ t.cells, u.oneCell' = true := by
  intro u hu
  simp only [Tr.cells, List.mem_cons, List.not_mem_nil, or_false] at hu
  rcases hu with rfl | rfl | rfl <;> rfl
theorem Rw.Ok.lt {w : World} {r : Rw} (h : r.Ok w) : r.len = 0 ∨ ∃ x, r.a = some x ∧ x.block < w.heap.size := by
  rcases h.holds.2 with h0 | ⟨b, off, ha, hb, _⟩
  · exact .inl h0
  · exact .inr ⟨_, ha, hb⟩
/-- The row lies in another block than g. -/
def Rw.Off (r : Rw) (g : Nat) : Prop := r.len = 0 ∨ ∃ x, r.a = some x ∧ x.block ≠ g
theorem Rw.Ok.grown {w w' : World} {row : Option Nat} {r : Rw} (h : r.Ok w) (hg : w.grownBy w' row) (ho : ∀ g, row = some g → r.Off g) : r.Ok w' := by
  refine ⟨⟨h.holds.1, ?_⟩, h.le, h.cap, h.small⟩
  rcases h.holds.2 with h0 | ⟨b, off, ha, hb, hc⟩
  · exact .inl h0
  · by_cases h0 : r.len = 0
    · exact .inl h0
    · have hne : some b ≠ row := by
        intro e
        rcases ho b e.symm with h1 | ⟨x, hx, hx2⟩
        · exact h0 h1
        · rw [ha] at hx
          obtain rfl := Option.some.inj hx
          exact hx2 rfl
      refine .inr ⟨b, off, ha, Nat.lt_of_lt_of_le hb hg.size, fun i hi => ?_⟩
      have hcell : ∀ o, w'.cell? ⟨b, o, none⟩ = w.cell? ⟨b, o, none⟩ := fun o => World.cell?_of_block (hg.block b hb hne)
      rw [hcell, hcell, hcell]
      exact hc i hi
/-- Rows in a list of one's own. -/
def RowsOwn (w : World) (base : Nat) (v : Value) (R : List Rw) : Prop := w.ownsRow base 32 1 v R.length (flatR R) ∧ ∀ r ∈ R, r.Ok w ∧ ∀ g, v.ownBlock = some g → r.Off g
theorem RowsOwn.start (w : World) (base : Nat) : RowsOwn w base (.slice none 0 0) [] := ⟨World.ownsRow_nil _ _ _ _, fun r hr => by cases hr⟩
theorem RowsOwn.later {w w' : World} {base : Nat} {v : Value} {R : List Rw} (h : RowsOwn w base v R) (hb : Below w.heap.size w w') : RowsOwn w' base v R := ⟨own_later' h.1 hb, fun r hr => ⟨(h.2 r hr).1.later hb, (h.2 r hr).2⟩⟩
theorem RowsOwn.snoc {w W w1 : World} {base : Nat} {v v1 : Value} {R : List Rw} {r' : Rw} (h : RowsOwn w base v R) (hW : Below w.heap.size w W) (hr' : r'.Ok W) (hf : ∀ x, r'.a = some x → w.heap.size ≤ x.block)
    (ho : w1.ownsRow base 32 1 v1 (R.length + 1) (flatR R ++ [r'.enc])) (hg : W.grownBy w1 v.ownBlock) (hat : v1.ownBlock = v.ownBlock ∨ v1.ownBlock = some W.heap.size) : RowsOwn w1 base v1 (R ++ [r']) := by
  have hlt : ∀ g, v.ownBlock = some g → g < w.heap.size := fun g hg => (h.1.lt g hg).2
  have off' : ∀ g, v.ownBlock = some g → r'.Off g := fun g hg => by
    rcases hr'.lt with h0 | ⟨x, hx, _⟩
    · exact .inl h0
    · exact .inr ⟨x, hx, by have := hf x hx; have := hlt g hg; omega⟩
  have new : ∀ {r : Rw}, r.Ok W → r.Off W.heap.size := fun {r} h => by
    rcases h.lt with h0 | ⟨x, hx, hl⟩
    · exact .inl h0
    · exact .inr ⟨x, hx, by omega⟩
  refine ⟨by rw [List.length_append]; simpa [flatR] using ho, fun r hr => ?_⟩
  rcases List.mem_append.1 hr with hr | hr
  · obtain ⟨h1, h2⟩ := h.2 r hr
    have h1' := h1.later hW
    refine ⟨h1'.grown hg h2, fun g hg' => ?_⟩
    rcases hat with e | e
    · exact h2 g (e ▸ hg')
    · rw [e] at hg'
      obtain rfl := Option.some.inj hg'
      exact new h1'
  · obtain rfl := List.mem_singleton.1 hr
    refine ⟨hr'.grown hg off', fun g hg' => ?_⟩
    rcases hat with e | e
    · exact off' g (e ▸ hg')
    · rw [e] at hg'
      obtain rfl := Option.some.inj hg'
      exact new hr'
theorem RowsOwn.rws {w : World} {base : Nat} {v : Value} {R : List Rw} (h : RowsOwn w base v R) : ∃ a c, v = .slice a R.length c ∧ R.length ≤ c ∧ c ≤ maxLen ∧ Rws w a R.length R := Rws.own h.1 (fun r hr => (h.2 r hr).1)
theorem comb_append (f : Nat → Nat → Nat) (T S : List Tl) : comb f (T ++ S) = comb f T ++ comb f S := by simp [comb]
theorem comb_succ (f : Nat → Nat → Nat) (T : List Tr) {j : Nat} (h : j < T.length) : comb f ((T.take (j + 1)).map Tr.tl) = comb f ((T.take j).map Tr.tl) ++ List.replicate (f (T.getD j default).m (T.getD j default).n) (T.getD j default).row.vs := by
  have e : T.take (j + 1) = T.take j ++ [T.getD j default] := by
    rw [List.take_succ_eq_append_getElem h]
    congr 2
    simp [List.getD, h]
  rw [e, List.map_append, comb_append]
  simp [comb, Tr.tl]
theorem comb_take_le (f : Nat → Nat → Nat) (T : List Tr) (j : Nat) : (comb f ((T.take j).map Tr.tl)).length ≤ (comb f (T.map Tr.tl)).length := by
  conv => rhs; rw [← List.take_append_drop j T]
  rw [List.map_append, comb_append, List.length_append]
  omega
theorem replicate_snoc {α : Type} (k : Nat) (x : α) : List.replicate (k + 1) x = List.replicate k x ++ [x] := by rw [List.replicate_succ']
theorem getD_mem {α : Type} [Inhabited α] {T : List α} {i : Nat} (hi : i < T.length) : T.getD i default ∈ T := by
  have : T.getD i default = T[i] := by simp [List.getD, hi]
  rw [this]; exact List.getElem_mem hi
theorem TalOf.bound {A B : List Row} {T : List Tr} (h : TalOf A B (T.map Tr.tl)) (i : Nat) (hi : i < T.length) : (T.getD i default).m ≤ A.length ∧ (T.getD i default).n ≤ B.length := by
  obtain ⟨e1, e2⟩ := h.2.1 _ (List.mem_map_of_mem (f := Tr.tl) (getD_mem hi))
  have h1 := List.count_le_length (a := (T.getD i default).tl.r) (l := A)
  have h2 := List.count_le_length (a := (T.getD i default).tl.r) (l := B)
  rw [← e1] at h1
  rw [← e2] at h2
  exact ⟨h1, h2⟩
theorem RowsOwn.mono {w : World} {base base' : Nat} {v : Value} {R : List Rw} (h : RowsOwn w base v R) (hb : base' ≤ base) : RowsOwn w base' v R := by
  refine ⟨⟨h.1.1, h.1.2.imp id ?_⟩, h.2⟩
  rintro ⟨g, cap, cur, hv, hg, rest⟩
  exact ⟨g, cap, cur, hv, Nat.le_trans hb hg, rest⟩
/-- What is asked of the function that says how often. -/
def Says (w : World) (g : Nat) (lb : Array Value) (f : Nat → Nat → Nat) : Prop :=
  ∀ W, Below w.heap.size w W → ∀ m n : Nat, m ≤ 20000 → n ≤ 20000 → Calls Tryd.prog g (#[.int .i64 (m : Int), .int .i64 (n : Int)] ++ lb) W fun e w' => e = .returned (.int .i64 ((f m n : Nat) : Int)) ∧ Cls W w'
theorem Says.later {w w' : World} {g : Nat} {lb : Array Value} {f : Nat → Nat → Nat} (h : Says w g lb f) (hb : Below w.heap.size w w') : Says w' g lb f := fun W hW => h W (hb.trans (hW.mono hb.size))
/-- f itself, or f for sets. -/
def repF (all : Bool) (f : Nat → Nat → Nat) : Nat → Nat → Nat := if all then f else fun m n => min (f (min m 1) (min n 1)) 1
theorem repF_le {all : Bool} {f : Nat → Nat → Nat} (hf : ∀ m n, f m n ≤ m + n) (m n : Nat) : repF all f m n ≤ m + n := by
  cases all
  · have := hf (min m 1) (min n 1)
    simp only [repF, Bool.false_eq_true, if_false]
    omega
  · exact hf m n
def addF (m n : Nat) : Nat := m + n
theorem addF_le (m n : Nat) : addF m n ≤ m + n := Nat.le_refl _
/-- What a bag operation gives. -/
def Gives (w : World) (w' : World) (e : Ending) (f : Nat → Nat → Nat) (A B : List Row) : Prop :=
  ∃ a c R, e = .returned (.slice a R.length c) ∧ Rws w' a R.length R ∧ R.length ≤ c ∧ c ≤ maxLen ∧ CombOf f A B (vss R) ∧ Below w.heap.size w w'
theorem Gives.of {w w' : World} {e : Ending} {f : Nat → Nat → Nat} {A B : List Row} (h : ∃ v R, e = .returned v ∧ RowsOwn w' w.heap.size v R ∧ CombOf f A B (vss R) ∧ Below w.heap.size w w') : Gives w w' e f A B := by
  obtain ⟨v, R, rfl, ho, hc, hb⟩ := h
  obtain ⟨a, c, rfl, h1, h2, h3⟩ := ho.rws
  exact ⟨a, c, R, rfl, h3, h1, h2, hc, hb⟩
/-- A row that came in, however long. -/
structure Rw.Okx (w : World) (r : Rw) : Prop where
  holds : Holds w r.a r.len r.vs
  le : r.len ≤ r.cap
  cap : r.cap ≤ maxLen
structure Rwx (w : World) (a : Option Addr) (len cap : Nat) (l : List Rw) : Prop where
  ln : l.length = len
  le : len ≤ cap
  cp : cap ≤ maxLen
  nn : a = none → cap = 0
  ok : ∀ r ∈ l, r.Okx w
  at_ : len = 0 ∨ ∃ b off, a = some ⟨b, off, none⟩ ∧ b < w.heap.size ∧ ∀ i, i < len → w.cell? ⟨b, off + i, none⟩ = some (l.getD i default).enc
theorem Rwx.later {w w' : World} {a : Option Addr} {len cap : Nat} {l : List Rw} (h : Rwx w a len cap l) (hb : Below w.heap.size w w') : Rwx w' a len cap l := by
  refine ⟨h.ln, h.le, h.cp, h.nn, fun r hr => ⟨(h.ok r hr).holds.later hb, (h.ok r hr).le, (h.ok r hr).cap⟩, h.at_.imp id ?_⟩
  rintro ⟨b, off, ha, hlt, hc⟩
  exact ⟨b, off, ha, Nat.lt_of_lt_of_le hlt hb.size, fun i hi => by rw [hb.cell (p := ⟨b, _, none⟩) hlt]; exact hc i hi⟩
theorem run_copy_whole {P : Program} (w : World) (dT sT ty elem : TypeId) (k : Nat) (g n c1 c2 : Nat) (a : Addr) (cur : Array Value) (t : TypeId) (cs : List Value)
    (hu : P.underlying dT = some (.slice elem)) (hs : (P.info? elem).map (·.size) = some k)
    (hg : w.heap[g]? = some (.cells cur t (0, 0))) (hn : cs.length = n * k)
    (hsrc : ∀ j v, cs[j]? = some v → w.cell? (a.add j) = some v) (hfit : cs.length = cur.size) (h1 : ∀ v ∈ cs, v.oneCell' = true) :
    (Builtin.copy_ #[dT, sT] ty #[.slice (some ⟨g, 0, none⟩) n c1, .slice (some a) n c2]).run P w = .ok (goInt n) (w.setRow g cs.toArray) := by
  have hl := run_loadCells_list (P := P) w a cs hsrc
  have hst := run_storeCells_at P g 0 t cs 0 cur w hg (by omega) h1
  have e : (cur.toList.take (0 + 0) ++ cs ++ cur.toList.drop (0 + 0 + cs.length)).toArray = cs.toArray := by
    rw [hfit]; simp
  rw [e] at hst
  cases hq : P.info? elem with
  | none => simp [hq] at hs
  | some i =>
    have hi : i.size = k := by simpa [hq] using hs
    simp [Builtin.copy_, run_underlying hu, Builtin.lenOf, Builtin.firstCells, sizeOf, typeInfo, hq, hi, ← hn, hl, hst]
theorem run_copy_nil' {P : Program} (w : World) (dT sT ty elem : TypeId) (a : Addr) (c1 c2 : Nat) (hu : P.underlying dT = some (.slice elem)) (k : Nat) (hs : (P.info? elem).map (·.size) = some k) :
    (Builtin.copy_ #[dT, sT] ty #[.slice (some a) 0 c1, .slice none 0 c2]).run P w = .ok (goInt 0) w := by
  cases hq : P.info? elem with
  | none => simp [hq] at hs
  | some i => simp [Builtin.copy_, run_underlying hu, Builtin.lenOf, Builtin.firstCells, sizeOf, typeInfo, hq, storeCells]
set_option maxHeartbeats 2000000 in
theorem copied_calls (r : Rw) (w : World) (h : r.Ok w) :
    Calls Tryd.prog 114 #[r.enc] w fun e w' => ∃ r' : Rw, e = .returned r'.enc ∧ r'.vs = r.vs ∧ r'.len = r.len ∧ r'.Ok w' ∧ (∀ x, r'.a = some x → w.heap.size ≤ x.block) ∧ Below w.heap.size w w' := by
  obtain ⟨ra, len, cap, vs⟩ := r
  obtain ⟨hh, hle, hcap, hsm⟩ := h
  simp only at hh hle hcap hsm
  simp only [Rw.enc]
  obtain ⟨i0, hi, hz0, hz1, hz2⟩ := info_parts infoV
  have hmk : ∀ W, Sem.run Tryd.prog (Instr.makeSlice 32 (.int .i64 (len : Int)) (.int .i64 (len : Int))) W = .ok (.slice (some ⟨W.heap.size, 0, none⟩) len len) (W.alloc (.cells (madeCells (Value.agg #[.int .i64 0, .int .i64 0, .string ⟨#[]⟩]).cells (len * 3)) 39)) := fun W => by
    have := run_make (P := Tryd.prog) W 32 39 i0 _ Tryd.underlying32 hi hz0 .i64 .i64 (len : Int) (len : Int) (by omega) (by omega) (by rw [hz2]; omega) (by omega)
    rw [hz1] at this
    simpa using this
  cases ra with
  | none =>
    have h0 : len = 0 := by
      rcases hh.2 with h0 | ⟨_, _, hx, _⟩
      · exact h0
      · cases hx
    have hv : vs = [] := List.eq_nil_of_length_eq_zero (by rw [hh.1, h0])
    subst h0
    clear hh hcap hle
    have hm0 : ∀ W, Sem.run Tryd.prog (Instr.makeSlice 32 (.int .i64 0) (.int .i64 0)) W = .ok (.slice (some ⟨W.heap.size, 0, none⟩) 0 0) (W.alloc (.cells (madeCells (Value.agg #[.int .i64 0, .int .i64 0, .string ⟨#[]⟩]).cells (0 * 3)) 39)) := hmk
    have hc0 : ∀ W a, Sem.run Tryd.prog (Builtin.copy_ #[32, 32] 3 #[.slice (some a) 0 0, .slice none 0 cap]) W = .ok (goInt 0) W := fun W a => run_copy_nil' W _ _ _ _ a 0 cap Tryd.underlying32 3 (by rw [hi, Option.map_some, hz1])
    clear hmk
    go_enter Tryd.func114, Tryd.ntmps114
    go_wp2
    go_ret
    exact ⟨⟨some ⟨w.heap.size, 0, none⟩, 0, 0, []⟩, rfl, hv.symm, rfl, ⟨⟨rfl, .inl rfl⟩, Nat.le_refl _, Nat.zero_le _, Nat.zero_le _⟩, (fun x hx => by obtain rfl := Option.some.inj hx; exact Nat.le_refl _), (Below.refl _ _).alloc (Nat.le_refl _) _⟩
  | some x =>
    have HC := Lib.hid hh
    have LN : Hid ((flatV vs).length = len * 3) := Lib.hid (by rw [flatV_length, hh.1])
    clear hh
    unfold maxLen at hcap
    have hcp : ∃ W2, Sem.run Tryd.prog (Builtin.copy_ #[32, 32] 3 #[.slice (some ⟨w.heap.size, 0, none⟩) len len, .slice (some x) len cap]) (w.alloc (.cells (madeCells #[.int .i64 0, .int .i64 0, .string ⟨#[]⟩] (len * 3)) 39)) = .ok (goInt len) W2 ∧ W2.heap[w.heap.size]? = some (.cells (flatV vs).toArray 39 (0, 0)) ∧ Below w.heap.size w W2 := by
      have hg := heap_alloc_new w (Obj.cells (madeCells #[.int .i64 0, .int .i64 0, .string ⟨#[]⟩] (len * 3)) 39)
      refine ⟨_, run_copy_whole _ _ _ _ 39 3 _ len len cap x _ _ (flatV vs) Tryd.underlying32 (by rw [hi, Option.map_some, hz1]) hg LN.out (HC.out.later ((Below.refl _ _).alloc (Nat.le_refl _) _)).cells (by rw [LN.out, size_madeCells]) (flatV_one vs), setRow_heap _ _ _ _ _ _ hg, below_setRow ((Below.refl _ _).alloc (Nat.le_refl _) _) (Nat.le_refl _) _⟩
    obtain ⟨W2, hcp, h2, hb⟩ := hcp
    have H2 := Lib.hid h2
    have HB := Lib.hid hb
    clear h2 hb
    go_enter Tryd.func114, Tryd.ntmps114
    go_wp2
    go_ret
    refine ⟨⟨some ⟨w.heap.size, 0, none⟩, len, len, vs⟩, rfl, rfl, rfl, ⟨⟨HC.out.1, ?_⟩, Nat.le_refl _, by show len ≤ 2 ^ 63 - 1; omega, hsm⟩, (fun x hx => by obtain rfl := Option.some.inj hx; exact Nat.le_refl _), HB.out⟩
    right
    refine ⟨w.heap.size, 0, rfl, (Array.getElem?_eq_some_iff.1 H2.out).1, fun i hi' => ?_⟩
    obtain ⟨f0, f1, f2⟩ := flatV_at vs i (by rw [HC.out.1]; exact hi')
    refine ⟨?_, ?_, ?_⟩
    · rw [cell_of_row _ _ _ _ _ _ H2.out]; simpa using f0
    · rw [cell_of_row _ _ _ _ _ _ H2.out]; simpa using f1
    · rw [cell_of_row _ _ _ _ _ _ H2.out]; simpa using f2
/-- What the reference's Canonical gives. -/
def CanOf (w w' : World) (e : Ending) (n : Nat) (A : List Row) : Prop :=
  ∃ a c R, e = .returned (.slice a n c) ∧ Rws w' a n R ∧ n ≤ c ∧ c ≤ maxLen ∧ (vss R).Perm A ∧ Asc (vss R) ∧ ((a = none ∧ c = 0) ∨ ∃ b off, a = some ⟨b, off, none⟩) ∧ Below w.heap.size w w'
theorem Rws.take {w : World} {b off n : Nat} {l : List Rw} (h : Rws w (some ⟨b, off, none⟩) n l) (m : Nat) (hm : m ≤ n) : Rws w (some ⟨b, off, none⟩) m (l.take m) := by
  refine ⟨by rw [List.length_take, h.ln]; omega, fun r hr => h.ok r (List.mem_of_mem_take hr), ?_⟩
  by_cases h0 : m = 0
  · exact .inl h0
  · right
    obtain ⟨b', off', ha, hlt, hc⟩ := h.at_.resolve_left (by omega)
    obtain ⟨rfl, rfl⟩ : b = b' ∧ off = off' := by simpa using ha
    refine ⟨b, off, rfl, hlt, fun i hi => ?_⟩
    rw [hc i (by omega)]
    congr 2
    simp [List.getD, hi]
theorem own_dx {w : World} {base n : Nat} {v : Value} {e : TypeId} {xs : List Value} (h : w.ownsRow base e 1 v n xs) : ∃ a c, v = .slice a n c ∧ ((a = none ∧ c = 0) ∨ ∃ b off, a = some ⟨b, off, none⟩) := by
  rcases h.2 with ⟨rfl, h0⟩ | ⟨g, cap, cur, rfl, _⟩
  · exact ⟨none, 0, by rw [h0], .inl ⟨rfl, rfl⟩⟩
  · exact ⟨_, _, rfl, .inr ⟨g, 0, rfl⟩⟩
/-- A row of one's own, read with its address. -/
theorem Rws.own' {w : World} {base n : Nat} {v : Value} {l : List Rw} (h : w.ownsRow base 32 1 v n (flatR l)) (hok : ∀ r ∈ l, r.Ok w) : ∃ a cap, v = .slice a n cap ∧ n ≤ cap ∧ cap ≤ maxLen ∧ Rws w a n l ∧ ((a = none ∧ cap = 0) ∨ ∃ b off, a = some ⟨b, off, none⟩) := by
  obtain ⟨a, c, rfl, h1, h2, h3⟩ := Rws.own h hok
  obtain ⟨a2, c2, e2, hd⟩ := own_dx h
  simp only [Value.slice.injEq, true_and] at e2
  obtain ⟨rfl, rfl⟩ := e2
  exact ⟨a, c, rfl, h1, h2, h3, hd⟩
set_option maxHeartbeats 4000000 in
theorem rCanonical_small (a : Option Addr) (n c : Nat) (l : List Rw) (w : World) (h : Rws w a n l) (hn : n < 2) :
    Calls Tryd.prog 70 #[.slice a n c] w fun e w' => CanOf w w' e n (vss l) := by
  obtain ⟨i0, hi, hz0, hz1, hz2⟩ := info_parts infoR
  have HH := Lib.hid h
  have HN := Lib.hid h.ln
  have hlt : (n : Int) < 2 := by omega
  clear h
  go_enter Tryd.func70, Tryd.ntmps70
  go_wp2_with fail
  go_loopw [3, 4] (fun s3 s4 wr => ∃ j R, j ≤ n ∧ s4 = .int .i64 ((j : Nat) : Int) ∧ Hid (RowsOwn wr w.heap.size s3 R) ∧ Hid (vss R = (vss l).take j) ∧ Hid (Below w.heap.size w wr)) (fun _ s4 _ => n - (intOf s4).toNat)
  case atStart => exact ⟨0, [], Nat.zero_le _, rfl, Lib.hid (RowsOwn.start _ _), Lib.hid rfl, Lib.hid (Below.refl _ _)⟩
  case round =>
    obtain ⟨j, R, hj, rfl, hR, hE, hBr⟩ := hrel
    have sr := hBr.out.size
    by_cases h1 : j < n
    · obtain ⟨b, off, ea, hb, hcell⟩ := HH.out.at_.resolve_left (by omega)
      have q0 := (hBr.out.cell (p := ⟨b, off + j, none⟩) hb).trans (hcell j h1)
      have hok := (HH.out.get j).later hBr.out
      have hs : Hid ((vss l).take (j + 1) = (vss l).take j ++ [(l.getD j default).vs]) := Lib.hid (by
        have hl : j < (vss l).length := by rw [vss_len, HN.out]; exact h1
        rw [List.take_succ_eq_append_getElem hl]
        congr 2
        have hj2 : j < l.length := by rw [HN.out]; exact h1
        simp only [vss, List.getElem_map, List.getD, List.getElem?_eq_getElem hj2, Option.getD_some])
      have hlen : R.length + 1 ≤ 4 := by
        have e := congrArg List.length hE.out
        rw [vss_len, List.length_take] at e
        omega
      subst ea
      clear hcell
      generalize l.getD j default = u at *
      obtain ⟨ra, rl, rc, rv⟩ := u
      simp only [Rw.enc] at q0
      have CC : Hid (Calls Tryd.prog 114 #[.slice ra rl rc] wr fun e w' => ∃ r' : Rw, e = .returned r'.enc ∧ r'.vs = rv ∧ r'.len = rl ∧ r'.Ok w' ∧ (∀ x, r'.a = some x → wr.heap.size ≤ x.block) ∧ Below wr.heap.size wr w') := Lib.hid (copied_calls ⟨ra, rl, rc, rv⟩ wr hok)
      clear hok
      have tok1 : True := trivial
      go_wp2_with (first | (go_at_call 114; ((with_reducible refine CC.out.mono ?_); rintro e w3 ⟨⟨pa, pl, pc, pv⟩, he, hvs, hl3, hx3⟩; have he2 : e = .returned (.slice pa pl pc) := he; clear he; subst he2; have HVS := Lib.hid hvs; clear hvs hl3; have HX3 := Lib.hid hx3; have s3 := hx3.2.2.size; clear hx3)) | (at_builtin; have _t := tok1; refine wpList_append_own_at _ rfl _ _ 68 rfl w.heap.size 32 i0 (.slice none 0 0) 1 24 Tryd.underlying68 hi hz0 hz1 hz2 rfl (by decide) _ _ _ rfl (own_later' hR.out.1 (HX3.out.2.2.alloc s3 _)) ⟨w3.heap.size, 0, none⟩ 1 1 [.slice pa pl pc] rfl rfl (cells_new' _ _ _) (flatR_one [(⟨pa, pl, pc, pv⟩ : Rw)]) (by unfold maxLen; omega) (by omega) (by simp; omega) ?_; intro v1 w4 hown4 hg4 _ hat4; have HR4 : Hid (RowsOwn w4 w.heap.size v1 (R ++ [(⟨pa, pl, pc, pv⟩ : Rw)])) := Lib.hid (hR.out.snoc (r' := ⟨pa, pl, pc, pv⟩) (HX3.out.2.2.alloc s3 _) (HX3.out.1.later ((Below.refl _ _).alloc (Nat.le_refl _) _)) HX3.out.2.1 hown4 hg4 hat4); have HB4 : Hid (Below w.heap.size w w4) := Lib.hid (Below.grown ((hBr.out.trans (HX3.out.2.2.mono sr)).alloc (by omega) _) hg4 (by simp; omega) (fun k hk => (hR.out.1.lt k hk).1)); clear hown4 hg4 hat4 tok1 _t))
      go_roundw
      case rel => exact ⟨j + 1, R ++ [(⟨pa, pl, pc, pv⟩ : Rw)], by omega, by go_num, HR4, Lib.hid (by rw [hs.out, ← hE.out, ← HVS.out]; simp [vss]), HB4⟩
      case measure => simp [intOf]; omega
    · obtain rfl : n = j := by omega
      have e1 : vss R = vss l := by rw [hE.out, List.take_of_length_le (by rw [vss_len, HN.out]; exact Nat.le_refl _)]
      have hRl : R.length = n := by rw [← vss_len, e1, vss_len, HN.out]
      have HE1 := Lib.hid e1
      have HRL := Lib.hid hRl
      clear e1 hRl
      go_wp2_with fail
      go_ret
      have ho := hR.out.1
      rw [HRL.out] at ho
      obtain ⟨a1, c1, rfl, k1, k2, k3, k4⟩ := Rws.own' ho (fun r hr => (hR.out.2 r hr).1)
      refine ⟨a1, c1, R, rfl, k3, k1, k2, by rw [HE1.out], ?_, k4, hBr.out⟩
      rw [HE1.out]
      have hll : (vss l).length < 2 := by rw [vss_len, HN.out]; exact hn
      generalize vss l = L at *
      match L, hll with
      | [], _ => exact List.Pairwise.nil
      | [x], _ => exact List.pairwise_singleton _ _
theorem flatR_snoc2 (l : List Rw) (r : Rw) : flatR (l ++ [r]) = flatR l ++ [r.enc] := by simp [flatR]
/-- Merging, on the way. -/
structure Mg (A B : List Row) (i k : Nat) (Z : List Row) : Prop where
  asc : Asc Z
  perm : Z.Perm (A.take i ++ B.take k)
  le : ∀ x ∈ Z, ∀ y, y ∈ A.drop i ∨ y ∈ B.drop k → cmpL x y ≤ 0
theorem Mg.start (A B : List Row) : Mg A B 0 0 [] := ⟨List.Pairwise.nil, List.Perm.refl _, fun x hx => by cases hx⟩
theorem Mg.len {A B Z : List Row} {i k : Nat} (h : Mg A B i k Z) (hi : i ≤ A.length) (hk : k ≤ B.length) : Z.length = i + k := by
  have := h.perm.length_eq
  rw [List.length_append, List.length_take, List.length_take] at this
  omega
theorem drop_at {A : List Row} {i : Nat} (hi : i < A.length) : A.drop i = A.getD i [] :: A.drop (i + 1) := by
  rw [List.drop_eq_getElem_cons hi]; simp [List.getD, hi]
theorem take_at {A : List Row} {i : Nat} (hi : i < A.length) : A.take (i + 1) = A.take i ++ [A.getD i []] := by
  rw [List.take_succ_eq_append_getElem hi]; simp [List.getD, hi]
theorem asc_drop_le {A : List Row} (hA : Asc A) {i : Nat} (hi : i < A.length) : ∀ y ∈ A.drop i, cmpL (A.getD i []) y ≤ 0 := by
  have h := hA.sublist (List.drop_sublist i A)
  rw [drop_at hi] at h ⊢
  intro y hy
  rcases List.mem_cons.1 hy with rfl | hy
  · rw [cmpL_self]; omega
  · exact (List.pairwise_cons.1 h).1 y hy
theorem asc_snoc {Z : List Row} {x : Row} (h : Asc Z) (hx : ∀ z ∈ Z, cmpL z x ≤ 0) : Asc (Z ++ [x]) := by
  refine List.pairwise_append.2 ⟨h, List.pairwise_singleton _ _, fun z hz y hy => ?_⟩
  obtain rfl := List.mem_singleton.1 hy
  exact hx z hz
theorem Mg.left {A B Z : List Row} {i k : Nat} (h : Mg A B i k Z) (hA : Asc A) (hi : i < A.length) (hle : ∀ y ∈ B.drop k, cmpL (A.getD i []) y ≤ 0) : Mg A B (i + 1) k (Z ++ [A.getD i []]) := by
  have hm : A.getD i [] ∈ A.drop i := by rw [drop_at hi]; exact List.mem_cons_self
  refine ⟨asc_snoc h.asc (fun z hz => h.le z hz _ (.inl hm)), ?_, fun x hx y hy => ?_⟩
  · rw [take_at hi]
    have := h.perm.append_right [A.getD i []]
    refine this.trans ?_
    rw [List.append_assoc, List.append_assoc]
    exact List.Perm.append_left _ List.perm_append_comm
  · rcases List.mem_append.1 hx with hx | hx
    · exact h.le x hx y (hy.imp (fun e => by rw [drop_at hi]; exact List.mem_cons_of_mem _ e) id)
    · obtain rfl := List.mem_singleton.1 hx
      rcases hy with hy | hy
      · exact asc_drop_le hA hi y (by rw [drop_at hi]; exact List.mem_cons_of_mem _ hy)
      · exact hle y hy
theorem Mg.right {A B Z : List Row} {i k : Nat} (h : Mg A B i k Z) (hB : Asc B) (hk : k < B.length) (hle : ∀ y ∈ A.drop i, cmpL (B.getD k []) y ≤ 0) : Mg A B i (k + 1) (Z ++ [B.getD k []]) := by
  have hm : B.getD k [] ∈ B.drop k := by rw [drop_at hk]; exact List.mem_cons_self
  refine ⟨asc_snoc h.asc (fun z hz => h.le z hz _ (.inr hm)), ?_, fun x hx y hy => ?_⟩
  · rw [take_at hk, ← List.append_assoc]
    exact h.perm.append_right _
  · rcases List.mem_append.1 hx with hx | hx
    · exact h.le x hx y (hy.imp id (fun e => by rw [drop_at hk]; exact List.mem_cons_of_mem _ e))
    · obtain rfl := List.mem_singleton.1 hx
      rcases hy with hy | hy
      · exact hle y hy
      · exact asc_drop_le hB hk y (by rw [drop_at hk]; exact List.mem_cons_of_mem _ hy)
theorem le_drop {B : List Row} {x : Row} (hB : Asc B) {k : Nat} (hx : k < B.length → cmpL x (B.getD k []) ≤ 0) : ∀ y ∈ B.drop k, cmpL x y ≤ 0 := by
  intro y hy
  have hk : k < B.length := by
    have := List.length_pos_of_mem hy
    rw [List.length_drop] at this; omega
  exact cmpL_trans (hx hk) (asc_drop_le hB hk y hy)
theorem Rws.cellAt {w W : World} {b off n : Nat} {l : List Rw} (h : Rws w (some ⟨b, off, none⟩) n l) (hW : Below w.heap.size w W) {i : Nat} (hi : i < n) : b < w.heap.size ∧ W.cell? ⟨b, off + i, none⟩ = some (l.getD i default).enc := by
  obtain ⟨b', off', ha, hlt, hc⟩ := h.at_.resolve_left (by omega)
  obtain ⟨rfl, rfl⟩ : b = b' ∧ off = off' := by simpa using ha
  exact ⟨hlt, (hW.cell (p := ⟨b, off + i, none⟩) hlt).trans (hc i hi)⟩
theorem Rws.addr {w : World} {a : Option Addr} {n : Nat} {l : List Rw} (h : Rws w a n l) (hn : 0 < n) : ∃ b off, a = some ⟨b, off, none⟩ := by
  obtain ⟨b, off, ha, _⟩ := h.at_.resolve_left (by omega)
  exact ⟨b, off, ha⟩
theorem half_div (n : Nat) (hn : n ≤ 10000) : ((n : Int)).tdiv 2 = ((n / 2 : Nat) : Int) := by rw [Int.tdiv_eq_ediv_of_nonneg (by omega)]; omega
set_option maxHeartbeats 16000000 in
theorem rCanonical_calls : ∀ (n : Nat) (a : Option Addr) (c : Nat) (l : List Rw) (w : World), Rws w a n l → n ≤ 10000 → n ≤ c → c ≤ maxLen →
    Calls Tryd.prog 70 #[.slice a n c] w fun e w' => CanOf w w' e n (vss l) := by
  intro n
  induction n using Nat.strongRecOn with
  | ind n ih =>
  intro a c l w h hn hnc hc
  by_cases h2 : n < 2
  · exact rCanonical_small a n c l w h h2
  obtain ⟨i0, hi0, hz0, hz1, hz2⟩ := info_parts infoR
  obtain ⟨b, off, rfl⟩ := h.addr (by omega)
  have hge : ¬ ((n : Int) < 2) := by omega
  have hhd := half_div n hn
  have hln := h.ln
  obtain ⟨m, hm⟩ : ∃ m, m = n / 2 := ⟨_, rfl⟩
  rw [← hm] at hhd
  have hm1 : 1 ≤ m := by omega
  have hmn : m < n := by omega
  have CA : Hid (∀ W, Below w.heap.size w W → Calls Tryd.prog 70 #[.slice (some ⟨b, off, none⟩) m c] W fun e w' => CanOf W w' e m (vss (l.take m))) := Lib.hid fun W hW => ih m hmn _ _ _ W ((h.later hW).take m (by omega)) (by omega) (by omega) hc
  have CB : Hid (∀ W, Below w.heap.size w W → Calls Tryd.prog 70 #[.slice (some ⟨b, off + m, none⟩) (n - m) (c - m)] W fun e w' => CanOf W w' e (n - m) (vss (l.drop m))) := Lib.hid fun W hW => ih (n - m) (by omega) _ _ _ W ((h.later hW).drop m hmn) (by omega) (by omega) (by omega)
  have hcm : ¬ (c = m) := by omega
  have HLN := Lib.hid hln
  have HIH := Lib.hid ih
  clear ih h hm hln
  unfold maxLen at hc
  go_enter Tryd.func70, Tryd.ntmps70
  go_wp2_with fail
  refine wp_region_lin (by kernel_rfl) (by kernel_rfl) ?_
  intro y0
  repeat (refine lin_calm rfl ?_; intro KK hKK; go_big_quiet_step (fail); refine wpQuiet_nil ?_; refine hKK _ ?_; clear hKK KK)
  refine lin_free rfl ?_
  intro KK hKK
  go_wp2_with ((go_at_call 70; ((with_reducible refine (CA.out _ y0.below).mono ?_); rintro e w1 hq; obtain ⟨aa, ca, X, rfl, hx1, hx2, hx3, hx4, hx5, hx6, hx7⟩ := hq; have HX := Lib.hid (And.intro hx1 (And.intro hx2 (And.intro hx3 (And.intro hx4 (And.intro hx5 hx6))))); clear hx1 hx2 hx3 hx4 hx5 hx6; obtain ⟨z1, rfl⟩ := Cls.step y0 (Cls.of hx7); clear hx7)))
  refine hKK _ _ (.inr ⟨z1, rfl⟩) ?_
  clear hKK KK
  repeat (refine lin_calm rfl ?_; intro KK hKK; go_big_quiet_step (fail); refine wpQuiet_nil ?_; refine hKK _ ?_; clear hKK KK)
  refine lin_free rfl ?_
  intro KK hKK
  go_wp2_with ((go_at_call 70; ((with_reducible refine (CB.out _ z1.below).mono ?_); rintro e w2 hq; obtain ⟨ab, cb, Y, rfl, hx1, hx2, hx3, hx4, hx5, hx6, hx7⟩ := hq; have HY := Lib.hid (And.intro hx1 (And.intro hx2 (And.intro hx3 (And.intro hx4 (And.intro hx5 hx6))))); have HA := Lib.hid (HX.out.1.later hx7); clear hx1 hx2 hx3 hx4 hx5 hx6; obtain ⟨z2, rfl⟩ := Cls.step z1 (Cls.of hx7); clear hx7)))
  refine hKK _ _ (.inr ⟨z2, rfl⟩) ?_
  clear hKK KK
  repeat (refine lin_calm rfl ?_; intro KK hKK; go_big_quiet_step (fail); refine wpQuiet_nil ?_; refine hKK _ ?_; clear hKK KK)
  refine lin_nil ?_
  have HW2 := Lib.hid z2.below
  have sw2 := z2.size
  have HB : Hid (Rws z2.val ab (n - m) Y) := Lib.hid HY.out.1
  have HLX : Hid (X.length = m) := Lib.hid HX.out.1.ln
  have HLY : Hid (Y.length = n - m) := Lib.hid HY.out.1.ln
  have HAX : Hid (Asc (vss X)) := Lib.hid HX.out.2.2.2.2.1
  have HAY : Hid (Asc (vss Y)) := Lib.hid HY.out.2.2.2.2.1
  have hcx := HX.out.2.2.1
  have hcy := HY.out.2.2.1
  have hmx := HX.out.2.1
  have hmy := HY.out.2.1
  have hp : Hid (((vss X) ++ (vss Y)).Perm (vss l)) := Lib.hid (by
    have e := HX.out.2.2.2.1.append HY.out.2.2.2.1
    rw [show vss (l.take m) ++ vss (l.drop m) = vss l by unfold vss; rw [← List.map_append, List.take_append_drop]] at e
    exact e)
  obtain ⟨ba, oa, ea⟩ := HA.out.addr (by omega)
  obtain ⟨bb, ob, eb⟩ := HB.out.addr (by omega)
  subst ea eb
  unfold maxLen at hcx hcy
  clear HX HY CA CB HIH
  generalize z2.val = w2 at *
  clear z2 z1 y0 hhd hge hcm
  obtain ⟨q, hq⟩ : ∃ q, q = n - m := ⟨_, rfl⟩
  rw [← hq] at HB HLY hmy ⊢
  have hnmq : n = m + q := by omega
  have HNQ := Lib.hid hnmq
  clear hq hnmq
  go_wp2_with fail
  go_loopw [7, 8, 9] (fun s7 s8 s9 wr => ∃ i k R, i ≤ m ∧ k ≤ q ∧ s8 = .int .i64 ((i : Nat) : Int) ∧ s9 = .int .i64 ((k : Nat) : Int) ∧ Hid (wr.ownsRow w2.heap.size 32 1 s7 (i + k) (flatR R)) ∧ Hid (∀ r ∈ R, r.Ok w2) ∧ Hid (Mg (vss X) (vss Y) i k (vss R)) ∧ Hid (Below w2.heap.size w2 wr)) (fun _ s8 s9 _ => m + q - ((intOf s8).toNat + (intOf s9).toNat))
  case atStart => exact ⟨0, 0, [], Nat.zero_le _, Nat.zero_le _, rfl, rfl, Lib.hid (World.ownsRow_nil _ _ _ _), Lib.hid (fun r hr => by cases hr), Lib.hid (Mg.start _ _), Lib.hid (Below.refl _ _)⟩
  case round =>
    obtain ⟨i, k, R, hi, hk, rfl, rfl, hO, hOK, hMg, hBr⟩ := hrel
    have sr := hBr.out.size
    have hmq : m + q ≤ 10000 := by have := HNQ.out; omega
    by_cases hk' : k < q
    · have hkz : (k : Int) < (q : Int) := by omega
      have hkb : ((k : Int) == (q : Int)) = false := by rw [beq_eq_false_iff_ne]; omega
      have hbB := (HB.out.cellAt hBr.out hk').1
      have qB := (HB.out.cellAt hBr.out hk').2
      have hbB' : bb < wr.heap.size := by omega
      have okB := HB.out.get k
      have hkY : k < (vss Y).length := by rw [vss_len, HLY.out]; exact hk'
      have HOKr : Hid (∀ r ∈ R ++ [Y.getD k default], r.Ok w2) := Lib.hid (fun r hr => (List.mem_append.1 hr).elim (hOK.out r) (fun e => (List.mem_singleton.1 e) ▸ okB))
      by_cases hi' : i < m
      · have hiz : (i : Int) < (m : Int) := by omega
        have hbA := (HA.out.cellAt hBr.out hi').1
        have qA := (HA.out.cellAt hBr.out hi').2
        have hbA' : ba < wr.heap.size := by omega
        have okA := HA.out.get i
        have hiX : i < (vss X).length := by rw [vss_len, HLX.out]; exact hi'
        have HOKl : Hid (∀ r ∈ R ++ [X.getD i default], r.Ok w2) := Lib.hid (fun r hr => (List.mem_append.1 hr).elim (hOK.out r) (fun e => (List.mem_singleton.1 e) ▸ okA))
        have HMl : Hid (cmpL (X.getD i default).vs (Y.getD k default).vs ≤ 0 → Mg (vss X) (vss Y) (i + 1) k (vss (R ++ [X.getD i default]))) := Lib.hid (fun hc => by have e := hMg.out.left HAX.out hiX (le_drop HAY.out (fun _ => by rw [vss_getD, vss_getD]; exact hc)); rw [vss_getD] at e; simpa [vss] using e)
        have HMr : Hid (¬ cmpL (X.getD i default).vs (Y.getD k default).vs ≤ 0 → Mg (vss X) (vss Y) i (k + 1) (vss (R ++ [Y.getD k default]))) := Lib.hid (fun hc => by have e := hMg.out.right HAY.out hkY (le_drop HAX.out (fun _ => by rw [vss_getD, vss_getD]; have := cmpL_neg (X.getD i default).vs (Y.getD k default).vs; omega)); rw [vss_getD] at e; simpa [vss] using e)
        have C : Hid (∀ W, Below wr.heap.size wr W → Calls Tryd.prog 115 #[(X.getD i default).enc, (Y.getD k default).enc] W fun e w' => e = .returned (.int .i64 (cmpL (X.getD i default).vs (Y.getD k default).vs)) ∧ Cls W w') := Lib.hid fun W hW => rCompareRows_calls _ _ _ _ _ _ _ _ W ((okA.later hBr.out).later hW).holds ((okB.later hBr.out).later hW).holds okA.le okB.le okA.cap okB.cap
        generalize X.getD i default = u at *
        obtain ⟨ra, rl, rc, rv⟩ := u
        simp only [Rw.enc] at qA
        clear okA hiX
        generalize Y.getD k default = v at *
        obtain ⟨qa, ql, qc, qv⟩ := v
        simp only [Rw.enc] at qB
        clear okB hkY
        simp only [Rw.enc] at C
        simp only at C HMl HMr
        generalize cmpL rv qv = qq at *
        by_cases hle : qq ≤ 0
        · have HOK := HOKl
          have HM := Lib.hid (HMl.out hle)
          clear HOKl HOKr HMl HMr
          have tok1 : True := trivial
          go_wp2_with fail
          refine wp_region_ext (by kernel_rfl) (by kernel_rfl) ?_
          repeat (go_big_quiet_step ((go_at_call 115; exact Cls.call (C.out _ (Ext.below _)))))
          refine wpQuiet_nil ?_
          rintro _ ⟨y, rfl⟩
          have sy := y.size
          go_wp2_with (at_builtin; have _t := tok1; refine wpList_append_own _ rfl _ _ 68 rfl w2.heap.size 32 i0 (.slice none 0 0) 1 24 Tryd.underlying68 hi0 hz0 hz1 hz2 rfl (by decide) _ _ _ rfl (own_later' hO.out (by repeat first | with_reducible exact Below.refl _ _ | with_reducible refine Below.setCell ?_ (by first | omega | (simp; done) | (simp; omega)) _ | with_reducible refine Below.alloc ?_ (by first | omega | (simp; done) | (simp; omega)) _ | with_reducible refine Below.drew ?_ | with_reducible refine Ext.on _ ?_ (by first | omega | (simp; done) | (simp; omega)))) ⟨y.val.heap.size, 0, none⟩ 1 1 [.slice ra rl rc] rfl rfl (cells_new' _ _ _) (flatR_one [(⟨ra, rl, rc, rv⟩ : Rw)]) (by unfold maxLen; omega) (by omega) (by simp; omega) ?_; intro v1 w4 hown4 hg4 _; have HO4 : Hid (w4.ownsRow w2.heap.size 32 1 v1 (i + k + 1) (flatR (R ++ [(⟨ra, rl, rc, rv⟩ : Rw)]))) := Lib.hid (by rw [flatR_snoc2]; exact hown4); have HB4 : Hid (Below w2.heap.size w2 w4) := Lib.hid (Below.grown ((hBr.out.trans (y.below.mono sr)).alloc (by omega) _) hg4 (by simp; omega) (fun g hg => (hO.out.lt g hg).1)); clear hown4 hg4 tok1 _t)
          go_roundw
          case rel => exact ⟨i + 1, k, R ++ [(⟨ra, rl, rc, rv⟩ : Rw)], by omega, by omega, by go_num, by go_num, Lib.hid (by have e := HO4.out; rw [show i + k + 1 = i + 1 + k by omega] at e; exact e), HOK.out, HM.out, HB4⟩
          case measure => simp [intOf]; omega
        · have HOK := HOKr
          have HM := Lib.hid (HMr.out hle)
          clear HOKl HOKr HMl HMr
          have tok1 : True := trivial
          go_wp2_with fail
          refine wp_region_ext (by kernel_rfl) (by kernel_rfl) ?_
          repeat (go_big_quiet_step ((go_at_call 115; exact Cls.call (C.out _ (Ext.below _)))))
          refine wpQuiet_nil ?_
          rintro _ ⟨y, rfl⟩
          have sy := y.size
          go_wp2_with (at_builtin; have _t := tok1; refine wpList_append_own _ rfl _ _ 68 rfl w2.heap.size 32 i0 (.slice none 0 0) 1 24 Tryd.underlying68 hi0 hz0 hz1 hz2 rfl (by decide) _ _ _ rfl (own_later' hO.out (by repeat first | with_reducible exact Below.refl _ _ | with_reducible refine Below.setCell ?_ (by first | omega | (simp; done) | (simp; omega)) _ | with_reducible refine Below.alloc ?_ (by first | omega | (simp; done) | (simp; omega)) _ | with_reducible refine Below.drew ?_ | with_reducible refine Ext.on _ ?_ (by first | omega | (simp; done) | (simp; omega)))) ⟨y.val.heap.size, 0, none⟩ 1 1 [.slice qa ql qc] rfl rfl (cells_new' _ _ _) (flatR_one [(⟨qa, ql, qc, qv⟩ : Rw)]) (by unfold maxLen; omega) (by omega) (by simp; omega) ?_; intro v1 w4 hown4 hg4 _; have HO4 : Hid (w4.ownsRow w2.heap.size 32 1 v1 (i + k + 1) (flatR (R ++ [(⟨qa, ql, qc, qv⟩ : Rw)]))) := Lib.hid (by rw [flatR_snoc2]; exact hown4); have HB4 : Hid (Below w2.heap.size w2 w4) := Lib.hid (Below.grown ((hBr.out.trans (y.below.mono sr)).alloc (by omega) _) hg4 (by simp; omega) (fun g hg => (hO.out.lt g hg).1)); clear hown4 hg4 tok1 _t)
          go_roundw
          case rel => exact ⟨i, k + 1, R ++ [(⟨qa, ql, qc, qv⟩ : Rw)], by omega, by omega, by go_num, by go_num, Lib.hid (by have e := HO4.out; rw [show i + k + 1 = i + (k + 1) by omega] at e; exact e), HOK.out, HM.out, HB4⟩
          case measure => simp [intOf]; omega
      · obtain rfl : m = i := by omega
        have HM : Hid (Mg (vss X) (vss Y) m (k + 1) (vss (R ++ [Y.getD k default]))) := Lib.hid (by have e := hMg.out.right HAY.out hkY (le_drop HAX.out (fun hlt => absurd hlt (by rw [vss_len, HLX.out]; omega))); rw [vss_getD] at e; simpa [vss] using e)
        have HOK := HOKr
        clear HOKr
        generalize Y.getD k default = v at *
        obtain ⟨qa, ql, qc, qv⟩ := v
        simp only [Rw.enc] at qB
        clear okB hkY
        have tok1 : True := trivial
        go_wp2_with fail
        refine wp_region_ext (by kernel_rfl) (by kernel_rfl) ?_
        repeat (go_big_quiet_step (fail))
        refine wpQuiet_nil ?_
        rintro _ ⟨y, rfl⟩
        have sy := y.size
        go_wp2_with (at_builtin; have _t := tok1; refine wpList_append_own _ rfl _ _ 68 rfl w2.heap.size 32 i0 (.slice none 0 0) 1 24 Tryd.underlying68 hi0 hz0 hz1 hz2 rfl (by decide) _ _ _ rfl (own_later' hO.out (by repeat first | with_reducible exact Below.refl _ _ | with_reducible refine Below.setCell ?_ (by first | omega | (simp; done) | (simp; omega)) _ | with_reducible refine Below.alloc ?_ (by first | omega | (simp; done) | (simp; omega)) _ | with_reducible refine Below.drew ?_ | with_reducible refine Ext.on _ ?_ (by first | omega | (simp; done) | (simp; omega)))) ⟨y.val.heap.size, 0, none⟩ 1 1 [.slice qa ql qc] rfl rfl (cells_new' _ _ _) (flatR_one [(⟨qa, ql, qc, qv⟩ : Rw)]) (by unfold maxLen; omega) (by omega) (by simp; omega) ?_; intro v1 w4 hown4 hg4 _; have HO4 : Hid (w4.ownsRow w2.heap.size 32 1 v1 (m + k + 1) (flatR (R ++ [(⟨qa, ql, qc, qv⟩ : Rw)]))) := Lib.hid (by rw [flatR_snoc2]; exact hown4); have HB4 : Hid (Below w2.heap.size w2 w4) := Lib.hid (Below.grown ((hBr.out.trans (y.below.mono sr)).alloc (by omega) _) hg4 (by simp; omega) (fun g hg => (hO.out.lt g hg).1)); clear hown4 hg4 tok1 _t)
        go_roundw
        case rel => exact ⟨m, k + 1, R ++ [(⟨qa, ql, qc, qv⟩ : Rw)], by omega, by omega, by go_num, by go_num, Lib.hid (by have e := HO4.out; rw [show m + k + 1 = m + (k + 1) by omega] at e; exact e), HOK.out, HM.out, HB4⟩
        case measure => simp [intOf]; omega
    · obtain rfl : q = k := by omega
      by_cases hi' : i < m
      · have hiz : (i : Int) < (m : Int) := by omega
        have hbA := (HA.out.cellAt hBr.out hi').1
        have qA := (HA.out.cellAt hBr.out hi').2
        have hbA' : ba < wr.heap.size := by omega
        have okA := HA.out.get i
        have hiX : i < (vss X).length := by rw [vss_len, HLX.out]; exact hi'
        have HOKl : Hid (∀ r ∈ R ++ [X.getD i default], r.Ok w2) := Lib.hid (fun r hr => (List.mem_append.1 hr).elim (hOK.out r) (fun e => (List.mem_singleton.1 e) ▸ okA))
        have HM : Hid (Mg (vss X) (vss Y) (i + 1) q (vss (R ++ [X.getD i default]))) := Lib.hid (by have e := hMg.out.left HAX.out hiX (le_drop HAY.out (fun hlt => absurd hlt (by rw [vss_len, HLY.out]; omega))); rw [vss_getD] at e; simpa [vss] using e)
        have HOK := HOKl
        clear HOKl
        generalize X.getD i default = u at *
        obtain ⟨ra, rl, rc, rv⟩ := u
        simp only [Rw.enc] at qA
        clear okA hiX
        have tok1 : True := trivial
        go_wp2_with fail
        refine wp_region_ext (by kernel_rfl) (by kernel_rfl) ?_
        repeat (go_big_quiet_step (fail))
        refine wpQuiet_nil ?_
        rintro _ ⟨y, rfl⟩
        have sy := y.size
        go_wp2_with (at_builtin; have _t := tok1; refine wpList_append_own _ rfl _ _ 68 rfl w2.heap.size 32 i0 (.slice none 0 0) 1 24 Tryd.underlying68 hi0 hz0 hz1 hz2 rfl (by decide) _ _ _ rfl (own_later' hO.out (by repeat first | with_reducible exact Below.refl _ _ | with_reducible refine Below.setCell ?_ (by first | omega | (simp; done) | (simp; omega)) _ | with_reducible refine Below.alloc ?_ (by first | omega | (simp; done) | (simp; omega)) _ | with_reducible refine Below.drew ?_ | with_reducible refine Ext.on _ ?_ (by first | omega | (simp; done) | (simp; omega)))) ⟨y.val.heap.size, 0, none⟩ 1 1 [.slice ra rl rc] rfl rfl (cells_new' _ _ _) (flatR_one [(⟨ra, rl, rc, rv⟩ : Rw)]) (by unfold maxLen; omega) (by omega) (by simp; omega) ?_; intro v1 w4 hown4 hg4 _; have HO4 : Hid (w4.ownsRow w2.heap.size 32 1 v1 (i + q + 1) (flatR (R ++ [(⟨ra, rl, rc, rv⟩ : Rw)]))) := Lib.hid (by rw [flatR_snoc2]; exact hown4); have HB4 : Hid (Below w2.heap.size w2 w4) := Lib.hid (Below.grown ((hBr.out.trans (y.below.mono sr)).alloc (by omega) _) hg4 (by simp; omega) (fun g hg => (hO.out.lt g hg).1)); clear hown4 hg4 tok1 _t)
        go_roundw
        case rel => exact ⟨i + 1, q, R ++ [(⟨ra, rl, rc, rv⟩ : Rw)], by omega, by omega, by go_num, by go_num, Lib.hid (by have e := HO4.out; rw [show i + q + 1 = i + 1 + q by omega] at e; exact e), HOK.out, HM.out, HB4⟩
        case measure => simp [intOf]; omega
      · obtain rfl : m = i := by omega
        have hpe := hMg.out.perm
        rw [List.take_of_length_le (by rw [vss_len, HLX.out]; exact Nat.le_refl _), List.take_of_length_le (by rw [vss_len, HLY.out]; exact Nat.le_refl _)] at hpe
        have HPE := Lib.hid (hpe.trans hp.out)
        clear hpe
        go_wp2_with fail
        go_ret
        have ho := hO.out
        rw [← HNQ.out] at ho
        obtain ⟨a1, c1, rfl, k1, k2, k3, k4⟩ := Rws.own' ho (fun r hr => (hOK.out r hr).later hBr.out)
        exact ⟨a1, c1, R, rfl, k3, k1, k2, HPE.out, hMg.out.asc, k4, HW2.out.trans (hBr.out.mono sw2)⟩
def GrpsOwn (w0 w : World) (base : Nat) (v : Value) (T : List Tr) : Prop := w.ownsRow base 156 3 v T.length (flatT T) ∧ (∀ t ∈ T, t.row.Ok w0)
theorem GrpsOwn.snoc {w0 w w1 : World} {base : Nat} {v v1 : Value} {T : List Tr} {t : Tr} (h : GrpsOwn w0 w base v T) (ht : t.row.Ok w0) (ho : w1.ownsRow base 156 3 v1 (T.length + 1) (flatT T ++ t.cells)) : GrpsOwn w0 w1 base v1 (T ++ [t]) := by
  refine ⟨?_, fun s hs => ?_⟩
  · rw [flatT_append, List.length_append]
    simpa [flatT] using ho
  · rcases List.mem_append.1 hs with hs | hs
    · exact h.2 s hs
    · obtain rfl := List.mem_singleton.1 hs
      exact ht
theorem GrpsOwn.read {w0 w : World} {base : Nat} {v : Value} {T : List Tr} (h : GrpsOwn w0 w base v T) : ∃ a c, v = .slice a T.length c ∧ T.length ≤ c ∧ c ≤ maxLen ∧ (T.length = 0 ∨ ∃ b, a = some ⟨b, 0, none⟩ ∧ b < w.heap.size ∧ ∀ i, i < T.length →
    w.cell? ⟨b, i * 3, none⟩ = some (T.getD i default).row.enc ∧ w.cell? ⟨b, i * 3 + 1, none⟩ = some (.int .i64 (T.getD i default).m) ∧ w.cell? ⟨b, i * 3 + 2, none⟩ = some (.int .i64 (T.getD i default).n)) := by
  rcases h.1.2 with ⟨rfl, h0⟩ | ⟨g, cap, cur, rfl, hb, hh, hn, hc, hs, ht⟩
  · exact ⟨none, 0, by rw [h0], by omega, Nat.zero_le _, .inl h0⟩
  · refine ⟨some ⟨g, 0, none⟩, cap, rfl, hn, hc, .inr ⟨g, rfl, (Array.getElem?_eq_some_iff.1 hh).1, fun i hi => ?_⟩⟩
    have hcell := World.ownsRow.cells h.1 (g := g) rfl
    obtain ⟨f0, f1, f2⟩ := flatT_at T i hi
    have c0 := hcell _ _ f0
    have c1 := hcell _ _ f1
    have c2 := hcell _ _ f2
    rw [add_none, Nat.zero_add] at c0 c1 c2
    exact ⟨c0, c1, c2⟩
theorem GrpsOwn.get {w0 w : World} {base : Nat} {v : Value} {T : List Tr} (h : GrpsOwn w0 w base v T) (i : Nat) : (T.getD i default).row.Ok w0 := by
  by_cases hi : i < T.length
  · have : T.getD i default = T[i] := by simp [List.getD, hi]
    rw [this]; exact h.2 _ (List.getElem_mem hi)
  · have : T.getD i default = default := by simp [List.getD, Nat.le_of_not_lt hi]
    rw [this]; exact Rw.Ok.nil w0
theorem infoG : (Tryd.prog.info? 156).map (fun i => (i.zero, i.size, i.bytes)) = some (some (.agg #[.slice none 0 0, .int .i64 0, .int .i64 0]), 3, 40) := by kernel_rfl
theorem three {W : World} {b : Nat} {a0 a1 a2 : Value} {t : TypeId} (h : W.heap[b]? = some (.cells #[a0, a1, a2] t)) :
    b < W.heap.size ∧ W.cell? ⟨b, 0, none⟩ = some a0 ∧ W.cell? ⟨b, 1, none⟩ = some a1 ∧ W.cell? ⟨b, 2, none⟩ = some a2 ∧ W.frozen? ⟨b, 1, none⟩ = false ∧ W.frozen? ⟨b, 2, none⟩ = false := by
  refine ⟨(Array.getElem?_eq_some_iff.1 h).1, ?_, ?_, ?_, ?_, ?_⟩
  · simp [World.cell?, h]
  · simp [World.cell?, h]
  · simp [World.cell?, h]
  · simp [World.frozen?, h]
  · simp [World.frozen?, h]
theorem set_one {W : World} {b : Nat} {a0 a1 a2 v : Value} {t : TypeId} (h : W.heap[b]? = some (.cells #[a0, a1, a2] t)) : (W.setCell ⟨b, 1, none⟩ v).heap[b]? = some (.cells #[a0, v, a2] t) := by
  simp [World.setCell, Array.getElem?_modify, h]
theorem set_two {W : World} {b : Nat} {a0 a1 a2 v : Value} {t : TypeId} (h : W.heap[b]? = some (.cells #[a0, a1, a2] t)) : (W.setCell ⟨b, 2, none⟩ v).heap[b]? = some (.cells #[a0, a1, v] t) := by
  simp [World.setCell, Array.getElem?_modify, h]
/-- The rows ahead from i on, counted. -/
theorem lead_is {X : List Row} {r : Row} {i p : Nat} (hs : ∀ j, j < p → X.getD (i + j) [] = r) (hp : i + p ≤ X.length) (he : i + p < X.length → X.getD (i + p) [] ≠ r) : lead (X.drop i) r = p := by
  have hg : ∀ j, (X.drop i).getD j [] = X.getD (i + j) [] := fun j => by simp [List.getD, List.getElem?_drop]
  rcases Nat.lt_or_ge (i + p) X.length with h | h
  · exact lead_hit (fun k hk => by rw [hg]; exact hs k hk) (by rw [List.length_drop]; omega) (by rw [hg]; exact he h)
  · have hl : (X.drop i).length = p := by rw [List.length_drop]; omega
    rw [← hl]
    exact lead_all (fun k hk => by rw [hg]; exact hs k (by omega))
/-- The row that comes next. -/
theorem TalIn.next {A B : List Row} {T : List Tl} {X Y : List Row} {i k p q : Nat} {r : Row} (h : TalIn A B T (X.drop i) (Y.drop k)) (hr : r ∈ X.drop i ∨ r ∈ Y.drop k) (hx : ∀ x ∈ X.drop i, cmpL r x ≤ 0) (hy : ∀ x ∈ Y.drop k, cmpL r x ≤ 0)
    (hp : lead (X.drop i) r = p) (hq : lead (Y.drop k) r = q) : TalIn A B (T ++ [⟨r, p, q⟩]) (X.drop (i + p)) (Y.drop (k + q)) ∧ 0 < p + q := by
  have e := h.step hr hx hy
  rw [hp, hq, List.drop_drop, List.drop_drop] at e
  refine ⟨e, ?_⟩
  have h1 := (lead_drop h.ascX hx).1
  have h2 := (lead_drop h.ascY hy).1
  rcases hr with hm | hm
  · have := List.count_pos_iff.2 hm; omega
  · have := List.count_pos_iff.2 hm; omega
set_option maxHeartbeats 16000000 in
set_option maxRecDepth 100000 in
theorem groups_calls (a : Option Addr) (n c : Nat) (l : List Rw) (a' : Option Addr) (n' c' : Nat) (l' : List Rw) (w : World) (h : Rws w a n l) (h' : Rws w a' n' l') (hn : n ≤ 10000) (hn' : n' ≤ 10000) (hnc : n ≤ c) (hnc' : n' ≤ c') (hc : c ≤ maxLen) (hc' : c' ≤ maxLen) :
    Calls Tryd.prog 144 #[.slice a n c, .slice a' n' c'] w fun e w' => ∃ v T w0, e = .returned v ∧ GrpsOwn w0 w' w0.heap.size v T ∧ TalOf (vss l) (vss l') (T.map Tr.tl) ∧ T.length ≤ n + n' ∧ (∀ t ∈ T, 0 < t.m + t.n) ∧ Below w0.heap.size w0 w' ∧ Below w.heap.size w w0 := by
  obtain ⟨i0, hi0, hz0, hz1, hz2⟩ := info_parts infoG
  have C1 : Hid (∀ W, Below w.heap.size w W → Calls Tryd.prog 70 #[.slice a n c] W fun e w' => CanOf W w' e n (vss l)) := Lib.hid fun W hW => rCanonical_calls n a c l W (h.later hW) hn hnc hc
  have C2 : Hid (∀ W, Below w.heap.size w W → Calls Tryd.prog 70 #[.slice a' n' c'] W fun e w' => CanOf W w' e n' (vss l')) := Lib.hid fun W hW => rCanonical_calls n' a' c' l' W (h'.later hW) hn' hnc' hc'
  clear h h'
  have tok1 : True := trivial
  have tok2 : True := trivial
  go_enter Tryd.func144, Tryd.ntmps144
  go_wp2_with (first | (go_at_call 70; have _t := tok1; ((with_reducible refine (C1.out _ (Below.refl _ _)).mono ?_); rintro e w1 ⟨aa, ca, X, rfl, hx⟩; have H1 := Lib.hid hx; clear hx tok1 _t)) | (go_at_call 70; have _t := tok2; ((with_reducible refine (C2.out _ H1.out.2.2.2.2.2.2).mono ?_); rintro e w2 ⟨ab, cb, Y, rfl, hx⟩; have H2 := Lib.hid hx; clear hx tok2 _t)))
  obtain ⟨r1, k1, m1, p1, s1, d1, b1⟩ := H1.out
  obtain ⟨r2, k2, m2, p2, s2, d2, b2⟩ := H2.out
  have HA : Hid (Rws w2 aa n X) := Lib.hid (r1.later b2)
  have HB : Hid (Rws w2 ab n' Y) := Lib.hid r2
  have HLX : Hid (X.length = n) := Lib.hid r1.ln
  have HLY : Hid (Y.length = n') := Lib.hid r2.ln
  have HT : Hid (TalIn (vss l) (vss l') (([] : List Tr).map Tr.tl) ((vss X).drop 0) ((vss Y).drop 0)) := Lib.hid (TalIn.start p1 p2 s1 s2)
  have HW2 : Hid (Below w.heap.size w w2) := Lib.hid (b1.trans (b2.mono b1.size))
  have HAX : Hid (Asc (vss X)) := Lib.hid s1
  have HAY : Hid (Asc (vss Y)) := Lib.hid s2
  unfold maxLen at m1 m2
  clear H1 H2 C1 C2 r1 p1 s1 d1 b1 r2 p2 s2 d2 b2 hc hc' hnc hnc'
  obtain ⟨nx, hnx⟩ : ∃ nx, nx = n := ⟨_, rfl⟩
  obtain ⟨ny, hny⟩ : ∃ ny, ny = n' := ⟨_, rfl⟩
  subst hnx hny
  go_loopw [7, 8, 9] (fun s7 s8 s9 wr => ∃ i k T, i ≤ nx ∧ k ≤ ny ∧ s8 = .int .i64 ((i : Nat) : Int) ∧ s9 = .int .i64 ((k : Nat) : Int) ∧ Hid (GrpsOwn w2 wr w2.heap.size s7 T) ∧ Hid (TalIn (vss l) (vss l') (T.map Tr.tl) ((vss X).drop i) ((vss Y).drop k)) ∧ T.length ≤ i + k ∧ Hid (∀ t ∈ T, 0 < t.m + t.n) ∧ Hid (Below w2.heap.size w2 wr)) (fun _ s8 s9 _ => nx + ny - ((intOf s8).toNat + (intOf s9).toNat))
  case atStart => exact ⟨0, 0, [], Nat.zero_le _, Nat.zero_le _, rfl, rfl, Lib.hid ⟨World.ownsRow_nil _ _ _ _, fun t ht => by cases ht⟩, HT, Nat.le_refl _, Lib.hid (fun t ht => by cases ht), Lib.hid (Below.refl _ _)⟩
  case round =>
    obtain ⟨i, k, T, hi, hk, rfl, rfl, hO, hI, hTl, hPO, hBr⟩ := hrel
    have sr := hBr.out.size
    by_cases h0 : i = nx ∧ k = ny
    · obtain ⟨e1, e2⟩ := h0
      obtain rfl : nx = i := e1.symm
      obtain rfl : ny = k := e2.symm
      have hd := hI.out
      rw [List.drop_of_length_le (by rw [vss_len, HLX.out]; exact Nat.le_refl _), List.drop_of_length_le (by rw [vss_len, HLY.out]; exact Nat.le_refl _)] at hd
      have HD := Lib.hid hd.done
      clear hd
      go_wp2_with fail
      go_ret
      exact ⟨_, rfl, T, w2, hO.out, HD.out, hTl, hPO.out, hBr.out, HW2.out⟩
    · have hbnd : i < nx ∨ k < ny := by omega
      go_upto_region 4 with fail
      go_cut [25] (fun s25 wx => s25 = .bool true ∧ wx = wr)
      case first =>
        by_cases hi' : i < nx
        · have hiz : (i : Int) < (nx : Int) := by omega
          go_wp2_with fail
          go_meet
          case rel => exact ⟨rfl, rfl⟩
        · have hiz : ¬ (i : Int) < (nx : Int) := by omega
          have hkz : (k : Int) < (ny : Int) := by omega
          go_wp2_with fail
          go_meet
          case rel => exact ⟨rfl, rfl⟩
      case rest =>
      obtain ⟨rfl, hwc⟩ := hcut
      obtain rfl : wr = wc := hwc.symm
      go_upto_region 6 with fail
      go_cut [47] (fun s47 wx => ∃ bb : Bool, s47 = .bool bb ∧ Hid ((bb = true → i < nx ∧ ∀ y ∈ (vss Y).drop k, cmpL (X.getD i default).vs y ≤ 0) ∧ (bb = false → k < ny ∧ ∀ x ∈ (vss X).drop i, cmpL (Y.getD k default).vs x ≤ 0)) ∧ Cls wr wx)
      case first =>
        by_cases hk' : k < ny
        · obtain ⟨bb, ob, eb⟩ := HB.out.addr (by omega)
          subst eb
          have hkz : (k : Int) < (ny : Int) := by omega
          have hkb : ((k : Int) == (ny : Int)) = false := by rw [beq_eq_false_iff_ne]; omega
          have hbB := (HB.out.cellAt hBr.out hk').1
          have qB := (HB.out.cellAt hBr.out hk').2
          have hbB' : bb < wr.heap.size := by omega
          have okB := HB.out.get k
          have hkY : k < (vss Y).length := by rw [vss_len, HLY.out]; exact hk'
          by_cases hi' : i < nx
          · obtain ⟨ba, oa, ea⟩ := HA.out.addr (by omega)
            subst ea
            have hiz : (i : Int) < (nx : Int) := by omega
            have hbA := (HA.out.cellAt hBr.out hi').1
            have qA := (HA.out.cellAt hBr.out hi').2
            have hbA' : ba < wr.heap.size := by omega
            have okA := HA.out.get i
            have hiX : i < (vss X).length := by rw [vss_len, HLX.out]; exact hi'
            have HPL : Hid (cmpL (X.getD i default).vs (Y.getD k default).vs ≤ 0 → i < nx ∧ ∀ y ∈ (vss Y).drop k, cmpL (X.getD i default).vs y ≤ 0) := Lib.hid (fun hc => ⟨hi', by have e := le_drop (x := (X.getD i default).vs) HAY.out (k := k) (fun _ => by rw [vss_getD]; exact hc); exact e⟩)
            have HPR : Hid (¬ cmpL (X.getD i default).vs (Y.getD k default).vs ≤ 0 → k < ny ∧ ∀ x ∈ (vss X).drop i, cmpL (Y.getD k default).vs x ≤ 0) := Lib.hid (fun hc => ⟨hk', by have e := le_drop (x := (Y.getD k default).vs) HAX.out (k := i) (fun _ => by rw [vss_getD]; have := cmpL_neg (X.getD i default).vs (Y.getD k default).vs; omega); exact e⟩)
            have C : Hid (∀ W, Below wr.heap.size wr W → Calls Tryd.prog 115 #[(X.getD i default).enc, (Y.getD k default).enc] W fun e w' => e = .returned (.int .i64 (cmpL (X.getD i default).vs (Y.getD k default).vs)) ∧ Cls W w') := Lib.hid fun W hW => rCompareRows_calls _ _ _ _ _ _ _ _ W ((okA.later hBr.out).later hW).holds ((okB.later hBr.out).later hW).holds okA.le okB.le okA.cap okB.cap
            clear okA okB
            generalize X.getD i default = u at *
            generalize Y.getD k default = v at *
            obtain ⟨ra, rl, rc, rv⟩ := u
            obtain ⟨qa, ql, qc, qv⟩ := v
            simp only [Rw.enc] at qA qB C
            simp only at C HPL HPR
            generalize cmpL rv qv = qq at *
            by_cases hle : qq ≤ 0
            · have HP := Lib.hid (HPL.out hle)
              clear HPL HPR
              refine wp_region_ext (by kernel_rfl) (by kernel_rfl) ?_
              repeat (go_big_quiet_step ((go_at_call 115; exact Cls.call (C.out _ (Ext.below _)))))
              refine wpQuiet_nil ?_
              rintro _ ⟨y, rfl⟩
              go_wp2_with fail
              go_meet
              case rel => exact ⟨true, rfl, Lib.hid ⟨(fun _ => HP.out), (fun h => by cases h)⟩, y, rfl⟩
            · have HP := Lib.hid (HPR.out hle)
              clear HPL HPR
              refine wp_region_ext (by kernel_rfl) (by kernel_rfl) ?_
              repeat (go_big_quiet_step ((go_at_call 115; exact Cls.call (C.out _ (Ext.below _)))))
              refine wpQuiet_nil ?_
              rintro _ ⟨y, rfl⟩
              go_wp2_with fail
              go_meet
              case rel => exact ⟨false, rfl, Lib.hid ⟨(fun h => by cases h), (fun _ => HP.out)⟩, y, rfl⟩
          · obtain rfl : nx = i := by omega
            have HP : Hid (k < ny ∧ ∀ x ∈ (vss X).drop nx, cmpL (Y.getD k default).vs x ≤ 0) := Lib.hid ⟨hk', by have e := le_drop (x := (Y.getD k default).vs) HAX.out (k := nx) (fun hlt => absurd hlt (by rw [vss_len, HLX.out]; omega)); exact e⟩
            clear okB
            generalize Y.getD k default = v at *
            obtain ⟨qa, ql, qc, qv⟩ := v
            simp only [Rw.enc] at qB
            refine wp_region_ext (by kernel_rfl) (by kernel_rfl) ?_
            repeat (go_big_quiet_step (fail))
            refine wpQuiet_nil ?_
            rintro _ ⟨y, rfl⟩
            go_wp2_with fail
            go_meet
            case rel => exact ⟨false, rfl, Lib.hid ⟨(fun h => by cases h), (fun _ => HP.out)⟩, y, rfl⟩
        · obtain rfl : ny = k := by omega
          have hi' : i < nx := by omega
          have HP : Hid (i < nx ∧ ∀ y ∈ (vss Y).drop ny, cmpL (X.getD i default).vs y ≤ 0) := Lib.hid ⟨hi', by have e := le_drop (x := (X.getD i default).vs) HAY.out (k := ny) (fun hlt => absurd hlt (by rw [vss_len, HLY.out]; omega)); exact e⟩
          refine wp_region_ext (by kernel_rfl) (by kernel_rfl) ?_
          repeat (go_big_quiet_step (fail))
          refine wpQuiet_nil ?_
          rintro _ ⟨y, rfl⟩
          go_wp2_with fail
          go_meet
          case rel => exact ⟨true, rfl, Lib.hid ⟨(fun _ => HP.out), (fun h => by cases h)⟩, y, rfl⟩
      case rest =>
        obtain ⟨bb, rfl, HP, y, rfl⟩ := hcut
        have sy := y.size
        have HBY : Hid (Below w2.heap.size w2 y.val) := Lib.hid (hBr.out.trans (y.below.mono sr))
        go_upto_if 47 with fail
        go_cut [10] (fun s10 wx => ∃ r : Rw, s10 = r.enc ∧ Hid (r.Ok w2 ∧ (r.vs ∈ (vss X).drop i ∨ r.vs ∈ (vss Y).drop k) ∧ (∀ x ∈ (vss X).drop i, cmpL r.vs x ≤ 0) ∧ (∀ x ∈ (vss Y).drop k, cmpL r.vs x ≤ 0)) ∧ wx = y.val)
        case first =>
          cases bb
          · obtain ⟨hk', hle⟩ := HP.out.2 rfl
            have hkY : k < (vss Y).length := by rw [vss_len, HLY.out]; exact hk'
            have HF : Hid ((Y.getD k default).Ok w2 ∧ ((Y.getD k default).vs ∈ (vss X).drop i ∨ (Y.getD k default).vs ∈ (vss Y).drop k) ∧ (∀ x ∈ (vss X).drop i, cmpL (Y.getD k default).vs x ≤ 0) ∧ (∀ x ∈ (vss Y).drop k, cmpL (Y.getD k default).vs x ≤ 0)) := Lib.hid ⟨HB.out.get k, .inr (by rw [drop_at hkY, vss_getD]; exact List.mem_cons_self), hle, by have e := asc_drop_le HAY.out hkY; rw [vss_getD] at e; exact e⟩
            obtain ⟨bb, ob, eb⟩ := HB.out.addr (by omega)
            subst eb
            have hkz : (k : Int) < (ny : Int) := by omega
            have hbB := (HB.out.cellAt HBY.out hk').1
            have qB := (HB.out.cellAt HBY.out hk').2
            clear hle hkY
            generalize Y.getD k default = v at *
            obtain ⟨qa, ql, qc, qv⟩ := v
            simp only [Rw.enc] at qB
            go_wp2_with fail
            go_meet
            case rel => exact ⟨⟨qa, ql, qc, qv⟩, rfl, HF, rfl⟩
          · obtain ⟨hi', hle⟩ := HP.out.1 rfl
            have hiX : i < (vss X).length := by rw [vss_len, HLX.out]; exact hi'
            have HF : Hid ((X.getD i default).Ok w2 ∧ ((X.getD i default).vs ∈ (vss X).drop i ∨ (X.getD i default).vs ∈ (vss Y).drop k) ∧ (∀ x ∈ (vss X).drop i, cmpL (X.getD i default).vs x ≤ 0) ∧ (∀ x ∈ (vss Y).drop k, cmpL (X.getD i default).vs x ≤ 0)) := Lib.hid ⟨HA.out.get i, .inl (by rw [drop_at hiX, vss_getD]; exact List.mem_cons_self), (by have e := asc_drop_le HAX.out hiX; rw [vss_getD] at e; exact e), hle⟩
            obtain ⟨ba, oa, ea⟩ := HA.out.addr (by omega)
            subst ea
            have hiz : (i : Int) < (nx : Int) := by omega
            have hbA := (HA.out.cellAt HBY.out hi').1
            have qA := (HA.out.cellAt HBY.out hi').2
            clear hle hiX
            generalize X.getD i default = u at *
            obtain ⟨ra, rl, rc, rv⟩ := u
            simp only [Rw.enc] at qA
            go_wp2_with fail
            go_meet
            case rel => exact ⟨⟨ra, rl, rc, rv⟩, rfl, HF, rfl⟩
        case rest =>
        obtain ⟨⟨ra, rl, rc, rv⟩, rfl, HR, hwc⟩ := hcut
        subst hwc
        have HOKR : Hid (Rw.Ok w2 ⟨ra, rl, rc, rv⟩) := Lib.hid HR.out.1
        simp only [Rw.enc]
        go_upto_block 2 with fail
        have H5 : Hid ((y.val.alloc (.cells #[.slice ra rl rc, .int .i64 0, .int .i64 0] 156)).heap[y.val.heap.size]? = some (.cells #[.slice ra rl rc, .int .i64 0, .int .i64 0] 156)) := Lib.hid (heap_alloc_new _ _)
        have HB5 : Hid (Below y.val.heap.size y.val (y.val.alloc (.cells #[.slice ra rl rc, .int .i64 0, .int .i64 0] 156))) := Lib.hid ((Below.refl _ _).alloc (Nat.le_refl _) _)
        have HO5 : Hid (GrpsOwn w2 y.val w2.heap.size u7 T) := Lib.hid ⟨own_later' hO.out.1 y.below, hO.out.2⟩
        have HW5 := HBY
        have stb : w2.heap.size ≤ y.val.heap.size := by omega
        have hstep : Hid (∀ P Q, lead ((vss X).drop i) rv = P → lead ((vss Y).drop k) rv = Q → TalIn (vss l) (vss l') ((T ++ [(⟨⟨ra, rl, rc, rv⟩, P, Q⟩ : Tr)]).map Tr.tl) ((vss X).drop (i + P)) ((vss Y).drop (k + Q)) ∧ 0 < P + Q) := Lib.hid (fun P Q hP hQ => by
          have e := hI.out.next HR.out.2.1 HR.out.2.2.1 HR.out.2.2.2 hP hQ
          rw [List.map_append]
          exact e)
        clear HP HR HBY hO hI
        generalize y.val = w5 at *
        clear y sy
        have HTB : Hid (∀ W, Below w5.heap.size w5 W → Below w5.heap.size w5 W) := Lib.hid fun _ h => h
        obtain ⟨tb, htb⟩ : ∃ tb, tb = w5.heap.size := ⟨_, rfl⟩
        have HTB : Hid (tb = w5.heap.size) := Lib.hid htb
        rw [← htb] at H5 HB5 stb ⊢
        clear htb
        go_cut [8] (fun s8 wx => ∃ p : Nat, i + p ≤ nx ∧ s8 = .int .i64 ((i + p : Nat) : Int) ∧ Hid (lead ((vss X).drop i) rv = p) ∧ Hid (Below tb w5 wx) ∧ Hid (wx.heap[tb]? = some (.cells #[.slice ra rl rc, .int .i64 ((p : Nat) : Int), .int .i64 0] 156)))
        case first =>
          go_wp2_with fail
          go_loopw [8] (fun s W => ∃ p : Nat, i + p ≤ nx ∧ s = .int .i64 ((i + p : Nat) : Int) ∧ Hid (∀ j, j < p → (vss X).getD (i + j) [] = rv) ∧ Hid (Below tb w5 W) ∧ Hid (W.heap[tb]? = some (.cells #[.slice ra rl rc, .int .i64 ((p : Nat) : Int), .int .i64 0] 156))) (fun s _ => nx - (intOf s).toNat)
          case atStart => exact ⟨0, by omega, rfl, Lib.hid (fun j hj => absurd hj (Nat.not_lt_zero _)), HB5, H5⟩
          case round =>
            obtain ⟨p, hp, rfl, hs, hB5, h5⟩ := hrel
            obtain ⟨ht, c0, c1, c2, f1, f2⟩ := three h5.out
            have hBw : Hid (Below w2.heap.size w2 wr) := Lib.hid (HW5.out.trans (hB5.out.mono stb))
            by_cases h1 : i + p < nx
            · obtain ⟨b1, o1, e1⟩ := HA.out.addr (by omega)
              subst e1
              have hbX := (HA.out.cellAt hBw.out h1).1
              have qX := (HA.out.cellAt hBw.out h1).2
              have hbX' : b1 < wr.heap.size := by have := hBw.out.size; omega
              have okX := HA.out.get (i + p)
              have C : Hid (∀ W, Below wr.heap.size wr W → Calls Tryd.prog 115 #[(X.getD (i + p) default).enc, .slice ra rl rc] W fun e w' => e = .returned (.int .i64 (cmpL (X.getD (i + p) default).vs rv)) ∧ Cls W w') := Lib.hid fun W hW => rCompareRows_calls _ _ _ _ _ _ _ _ W ((okX.later hBw.out).later hW).holds ((HOKR.out.later hBw.out).later hW).holds okX.le HOKR.out.le okX.cap HOKR.out.cap
              have hq := sameR_cmp (X.getD (i + p) default).vs rv
              have hst : Hid (sameR (X.getD (i + p) default).vs rv = true → ∀ j, j < p + 1 → (vss X).getD (i + j) [] = rv) := Lib.hid (fun e j hj => by
                by_cases hjp : j = p
                · subst hjp; rw [vss_getD]; simpa [sameR] using e
                · exact hs.out j (by omega))
              have hsf : Hid (sameR (X.getD (i + p) default).vs rv = false → lead ((vss X).drop i) rv = p) := Lib.hid (fun e => lead_is hs.out (by rw [vss_len, HLX.out]; omega) (fun _ => by rw [vss_getD]; simpa [sameR] using e))
              clear okX
              generalize X.getD (i + p) default = u at *
              obtain ⟨xa, xl, xc, xv⟩ := u
              simp only [Rw.enc] at qX C
              simp only at hq hst hsf C
              generalize cmpL xv rv = qq at *
              generalize sameR xv rv = rr at *
              have hz : ((i + p : Nat) : Int) < (nx : Int) := by omega
              cases rr
              · have HL1 := Lib.hid (hsf.out rfl)
                clear hst hsf
                go_wp2_with (go_at_call 115; ((with_reducible refine (C.out _ (Below.refl _ _)).mono ?_); rintro e _ ⟨rfl, z, rfl⟩))
                go_wp2_with fail
                go_meet
                case rel => exact ⟨p, hp, rfl, HL1, Lib.hid (hB5.out.trans (z.below.mono (Nat.le_of_lt ht))), Lib.hid ((z.block ht).trans h5.out)⟩
              · have HS := Lib.hid (hst.out rfl)
                clear hst hsf
                have h5' := h5
                go_wp2_with (go_at_call 115; ((with_reducible refine (C.out _ (Below.refl _ _)).mono ?_); rintro e _ ⟨rfl, z, rfl⟩))
                go_roundw
                case rel => exact ⟨p + 1, by omega, by go_num, HS, Lib.hid (Below.setCell (hB5.out.trans (z.below.mono (by omega))) (Nat.le_refl _) _), Lib.hid (by have e := set_one (v := .int .i64 ((p + 1 : Nat) : Int)) ((z.block ht).trans h5.out); simpa using e)⟩
                case measure => simp [intOf]; omega
            · have HL1 : Hid (lead ((vss X).drop i) rv = p) := Lib.hid (lead_is hs.out (by rw [vss_len, HLX.out]; omega) (fun hlt => absurd hlt (by rw [vss_len, HLX.out]; omega)))
              have hz : ¬ (((i + p : Nat) : Int) < (nx : Int)) := by omega
              go_wp2_with fail
              go_meet
              case rel => exact ⟨p, hp, rfl, HL1, hB5, h5⟩
        case rest =>
        obtain ⟨P, hP, rfl, HL1, HB6, H6⟩ := hcut
        generalize wc = w6 at *
        clear H5 HB5
        have HB5 := HB6
        have H5 := H6
        clear HB6 H6
        go_upto_block 4 with fail
        go_cut [9] (fun s9 wx => ∃ p : Nat, k + p ≤ ny ∧ s9 = .int .i64 ((k + p : Nat) : Int) ∧ Hid (lead ((vss Y).drop k) rv = p) ∧ Hid (Below tb w5 wx) ∧ Hid (wx.heap[tb]? = some (.cells #[.slice ra rl rc, .int .i64 ((P : Nat) : Int), .int .i64 ((p : Nat) : Int)] 156)))
        case first =>
          go_wp2_with fail
          go_loopw [9] (fun s W => ∃ p : Nat, k + p ≤ ny ∧ s = .int .i64 ((k + p : Nat) : Int) ∧ Hid (∀ j, j < p → (vss Y).getD (k + j) [] = rv) ∧ Hid (Below tb w5 W) ∧ Hid (W.heap[tb]? = some (.cells #[.slice ra rl rc, .int .i64 ((P : Nat) : Int), .int .i64 ((p : Nat) : Int)] 156))) (fun s _ => ny - (intOf s).toNat)
          case atStart => exact ⟨0, by omega, rfl, Lib.hid (fun j hj => absurd hj (Nat.not_lt_zero _)), HB5, H5⟩
          case round =>
            obtain ⟨p, hp, rfl, hs, hB5, h5⟩ := hrel
            obtain ⟨ht, c0, c1, c2, f1, f2⟩ := three h5.out
            have hBw : Hid (Below w2.heap.size w2 wr) := Lib.hid (HW5.out.trans (hB5.out.mono stb))
            by_cases h1 : k + p < ny
            · obtain ⟨b1, o1, e1⟩ := HB.out.addr (by omega)
              subst e1
              have hbX := (HB.out.cellAt hBw.out h1).1
              have qX := (HB.out.cellAt hBw.out h1).2
              have hbX' : b1 < wr.heap.size := by have := hBw.out.size; omega
              have okX := HB.out.get (k + p)
              have C : Hid (∀ W, Below wr.heap.size wr W → Calls Tryd.prog 115 #[(Y.getD (k + p) default).enc, .slice ra rl rc] W fun e w' => e = .returned (.int .i64 (cmpL (Y.getD (k + p) default).vs rv)) ∧ Cls W w') := Lib.hid fun W hW => rCompareRows_calls _ _ _ _ _ _ _ _ W ((okX.later hBw.out).later hW).holds ((HOKR.out.later hBw.out).later hW).holds okX.le HOKR.out.le okX.cap HOKR.out.cap
              have hq := sameR_cmp (Y.getD (k + p) default).vs rv
              have hst : Hid (sameR (Y.getD (k + p) default).vs rv = true → ∀ j, j < p + 1 → (vss Y).getD (k + j) [] = rv) := Lib.hid (fun e j hj => by
                by_cases hjp : j = p
                · subst hjp; rw [vss_getD]; simpa [sameR] using e
                · exact hs.out j (by omega))
              have hsf : Hid (sameR (Y.getD (k + p) default).vs rv = false → lead ((vss Y).drop k) rv = p) := Lib.hid (fun e => lead_is hs.out (by rw [vss_len, HLY.out]; omega) (fun _ => by rw [vss_getD]; simpa [sameR] using e))
              clear okX
              generalize Y.getD (k + p) default = u at *
              obtain ⟨xa, xl, xc, xv⟩ := u
              simp only [Rw.enc] at qX C
              simp only at hq hst hsf C
              generalize cmpL xv rv = qq at *
              generalize sameR xv rv = rr at *
              have hz : ((k + p : Nat) : Int) < (ny : Int) := by omega
              cases rr
              · have HL1 := Lib.hid (hsf.out rfl)
                clear hst hsf
                go_wp2_with (go_at_call 115; ((with_reducible refine (C.out _ (Below.refl _ _)).mono ?_); rintro e _ ⟨rfl, z, rfl⟩))
                go_wp2_with fail
                go_meet
                case rel => exact ⟨p, hp, rfl, HL1, Lib.hid (hB5.out.trans (z.below.mono (Nat.le_of_lt ht))), Lib.hid ((z.block ht).trans h5.out)⟩
              · have HS := Lib.hid (hst.out rfl)
                clear hst hsf
                have h5' := h5
                go_wp2_with (go_at_call 115; ((with_reducible refine (C.out _ (Below.refl _ _)).mono ?_); rintro e _ ⟨rfl, z, rfl⟩))
                go_roundw
                case rel => exact ⟨p + 1, by omega, by go_num, HS, Lib.hid (Below.setCell (hB5.out.trans (z.below.mono (by omega))) (Nat.le_refl _) _), Lib.hid (by have e := set_two (v := .int .i64 ((p + 1 : Nat) : Int)) ((z.block ht).trans h5.out); simpa using e)⟩
                case measure => simp [intOf]; omega
            · have HL1 : Hid (lead ((vss Y).drop k) rv = p) := Lib.hid (lead_is hs.out (by rw [vss_len, HLY.out]; omega) (fun hlt => absurd hlt (by rw [vss_len, HLY.out]; omega)))
              have hz : ¬ (((k + p : Nat) : Int) < (ny : Int)) := by omega
              go_wp2_with fail
              go_meet
              case rel => exact ⟨p, hp, rfl, HL1, hB5, h5⟩
        case rest =>
        obtain ⟨Q, hQ, rfl, HL2, HB7, H7⟩ := hcut
        generalize wc = w7 at *
        clear H5 HB5
        obtain ⟨ht, c0, c1, c2, f1, f2⟩ := three H7.out
        have hst := hstep.out P Q HL1.out HL2.out
        have HST := Lib.hid hst.1
        have hpq := hst.2
        have s7 := HB7.out.size
        have htb := HTB.out
        have HO7 : Hid (GrpsOwn w2 w7 w2.heap.size u7 T) := Lib.hid ⟨own_later' HO5.out.1 (by rw [← htb]; exact HB7.out), HO5.out.2⟩
        have HBW : Hid (Below w2.heap.size w2 w7) := Lib.hid (HW5.out.trans (HB7.out.mono stb))
        have HSN : Hid (∀ w1 v1, w1.ownsRow w2.heap.size 156 3 v1 (T.length + 1) (flatT T ++ (⟨⟨ra, rl, rc, rv⟩, P, Q⟩ : Tr).cells) → GrpsOwn w2 w1 w2.heap.size v1 (T ++ [(⟨⟨ra, rl, rc, rv⟩, P, Q⟩ : Tr)])) := Lib.hid fun w1 v1 h2 => HO7.out.snoc (t := ⟨⟨ra, rl, rc, rv⟩, P, Q⟩) HOKR.out h2
        have sbw := HBW.out.size
        clear hst hstep htb HTB
        have tok1 : True := trivial
        go_wp2_with (at_builtin; have _t := tok1; refine wpList_append_own _ rfl _ _ 153 rfl w2.heap.size 156 i0 (.agg #[.slice none 0 0, .int .i64 0, .int .i64 0]) 3 40 Tryd.underlying153 hi0 hz0 hz1 hz2 rfl (by decide) _ _ _ rfl (own_later' HO7.out.1 ((Below.refl _ _).alloc (Nat.le_refl _) _)) ⟨w7.heap.size, 0, none⟩ 1 1 (Tr.cells (⟨⟨ra, rl, rc, rv⟩, P, Q⟩ : Tr)) rfl rfl (cells_new' _ _ _) (Tr.one _) (by unfold maxLen; omega) (by omega) (by simp; omega) ?_; intro v1 w8 hown8 hg8 _; have HO8 : Hid (GrpsOwn w2 w8 w2.heap.size v1 (T ++ [(⟨⟨ra, rl, rc, rv⟩, P, Q⟩ : Tr)])) := Lib.hid (HSN.out _ _ hown8); have HB8 : Hid (Below w2.heap.size w2 w8) := Lib.hid (Below.grown (HBW.out.alloc sbw _) hg8 (by simp; omega) (fun g hg => (HO7.out.1.lt g hg).1)); clear hown8 hg8 tok1 _t)
        go_roundw
        case rel =>
          exact ⟨i + P, k + Q, T ++ [(⟨⟨ra, rl, rc, rv⟩, P, Q⟩ : Tr)], hP, hQ, (by first | rfl | go_num), (by first | rfl | go_num), HO8, HST, (by simp; omega), Lib.hid (fun t ht => (List.mem_append.1 ht).elim (hPO.out t) (fun e => by rw [List.mem_singleton.1 e]; exact hpq)), HB8⟩
        case measure => simp [intOf]; omega
set_option maxHeartbeats 4000000 in
theorem times_calls (v : Value) (R : List Rw) (ra : Option Addr) (rl rc : Nat) (rv : List Vl) (N : Int) (k : Nat) (wb w : World) (hR : RowsOwn w wb.heap.size v R) (hB : Below wb.heap.size wb w) (hr : Rw.Ok wb ⟨ra, rl, rc, rv⟩) (hN : N = (k : Int) ∨ (N < 0 ∧ k = 0)) (hlen : R.length + k ≤ 20000) :
    Calls Tryd.prog 145 #[v, .slice ra rl rc, .int .i64 N] w fun e w' => ∃ v' R', e = .returned v' ∧ RowsOwn w' wb.heap.size v' R' ∧ vss R' = vss R ++ List.replicate k rv ∧ Below wb.heap.size wb w' := by
  obtain ⟨i0, hi, hz0, hz1, hz2⟩ := info_parts infoR
  have HR := Lib.hid hR
  have HB := Lib.hid hB
  have HOK := Lib.hid hr
  clear hR hB hr
  go_enter Tryd.func145, Tryd.ntmps145
  go_wp2_with fail
  go_loopw [0, 7] (fun s0 s7 wr => ∃ i R', i ≤ k ∧ s7 = .int .i64 ((i : Nat) : Int) ∧ Hid (RowsOwn wr wb.heap.size s0 R') ∧ Hid (vss R' = vss R ++ List.replicate i rv) ∧ Hid (Below wb.heap.size wb wr)) (fun _ s7 _ => k - (intOf s7).toNat)
  case atStart => exact ⟨0, R, Nat.zero_le _, rfl, HR, Lib.hid (by simp), HB⟩
  case round =>
    obtain ⟨i, R', hi', rfl, hR', hE', hB'⟩ := hrel
    have sB := hB'.out.size
    by_cases h2 : i < k
    · have hNk : N = (k : Int) := by omega
      subst hNk
      have hiz : (i : Int) < (k : Int) := by omega
      have hlen' : R'.length + 1 ≤ 20000 := by
        have e := congrArg List.length hE'.out
        rw [vss_len, List.length_append, List.length_replicate, vss_len] at e
        omega
      have CC : Hid (Calls Tryd.prog 114 #[.slice ra rl rc] wr fun e w' => ∃ r' : Rw, e = .returned r'.enc ∧ r'.vs = rv ∧ r'.len = rl ∧ r'.Ok w' ∧ (∀ x, r'.a = some x → wr.heap.size ≤ x.block) ∧ Below wr.heap.size wr w') := Lib.hid (copied_calls ⟨ra, rl, rc, rv⟩ wr (HOK.out.later hB'.out))
      have tok1 : True := trivial
      go_wp2_with (first | (go_at_call 114; ((with_reducible refine CC.out.mono ?_); rintro e w3 ⟨⟨pa, pl, pc, pv⟩, he, hvs, hl3, hx3⟩; have he2 : e = .returned (.slice pa pl pc) := he; clear he; subst he2; have HVS := Lib.hid hvs; clear hvs hl3; have HX3 := Lib.hid hx3; have s3 := hx3.2.2.size; clear hx3)) | (at_builtin; have _t := tok1; refine wpList_append_own_at _ rfl _ _ 68 rfl wb.heap.size 32 i0 (.slice none 0 0) 1 24 Tryd.underlying68 hi hz0 hz1 hz2 rfl (by decide) _ _ _ rfl (own_later' hR'.out.1 (HX3.out.2.2.alloc s3 _)) ⟨w3.heap.size, 0, none⟩ 1 1 [.slice pa pl pc] rfl rfl (cells_new' _ _ _) (flatR_one [(⟨pa, pl, pc, pv⟩ : Rw)]) (by unfold maxLen; omega) (by omega) (by simp; omega) ?_; intro v1 w4 hown4 hg4 _ hat4; have HR4 : Hid (RowsOwn w4 wb.heap.size v1 (R' ++ [(⟨pa, pl, pc, pv⟩ : Rw)])) := Lib.hid (hR'.out.snoc (r' := ⟨pa, pl, pc, pv⟩) (HX3.out.2.2.alloc s3 _) (HX3.out.1.later ((Below.refl _ _).alloc (Nat.le_refl _) _)) HX3.out.2.1 hown4 hg4 hat4); have HB4 : Hid (Below wb.heap.size wb w4) := Lib.hid (Below.grown ((hB'.out.trans (HX3.out.2.2.mono sB)).alloc (by omega) _) hg4 (by simp; omega) (fun k hk => (hR'.out.1.lt k hk).1)); clear hown4 hg4 hat4 tok1 _t))
      go_roundw
      case rel => exact ⟨i + 1, R' ++ [(⟨pa, pl, pc, pv⟩ : Rw)], by omega, by go_num, HR4, Lib.hid (by rw [replicate_snoc, ← List.append_assoc, ← hE'.out, ← HVS.out]; simp [vss]), HB4⟩
      case measure => simp [intOf]; omega
    · obtain rfl : k = i := by omega
      have hiz : ¬ ((k : Int) < N) := by omega
      go_wp2_with fail
      go_ret
      exact ⟨_, rfl, R', hR'.out, hE'.out, hB'.out⟩
set_option maxHeartbeats 8000000 in
theorem rUnion_false (a : Option Addr) (n c : Nat) (l : List Rw) (a' : Option Addr) (n' c' : Nat) (l' : List Rw) (w : World) (h : Rws w a n l) (h' : Rws w a' n' l') (hn : n ≤ 10000) (hn' : n' ≤ 10000) (hnc : n ≤ c) (hnc' : n' ≤ c') (hc : c ≤ maxLen) (hc' : c' ≤ maxLen) :
    Calls Tryd.prog 116 #[.slice a n c, .slice a' n' c', .bool false] w fun e w' => Gives w w' e (repF false addF) (vss l) (vss l') := by
  have C1 := Lib.hid (groups_calls a n c l a' n' c' l' w h h' hn hn' hnc hnc' hc hc')
  have hl := h.ln
  have hl' := h'.ln
  clear h h' hc hc' hnc hnc'
  go_enter Tryd.func116, Tryd.ntmps116
  go_wp2_with (go_at_call 144; ((with_reducible refine C1.out.mono ?_); rintro e w1 ⟨v, T, w0, rfl, hx⟩; have H1 := Lib.hid hx; clear hx; obtain ⟨at', ct, ev, kt, mt, dt⟩ := H1.out.1.read; have HD := Lib.hid dt; subst ev; clear dt))
  obtain ⟨ho, hT, hTl, hpos, hb0, hb⟩ := H1.out
  have HC := Lib.hid (hT.comb (repF false addF) (by simp [repF, addF]))
  have HCL : Hid ((comb (repF false addF) (T.map Tr.tl)).length ≤ n + n') := Lib.hid (by have := HC.out.le (repF_le addF_le); rw [vss_len, vss_len] at this; omega)
  have HMN : Hid (∀ i, i < T.length → (T.getD i default).m ≤ 10000 ∧ (T.getD i default).n ≤ 10000) := Lib.hid fun i hi => by
    have := hT.bound i hi
    rw [vss_len, vss_len] at this
    omega
  have HPO : Hid (∀ i, i < T.length → 0 < (T.getD i default).m + (T.getD i default).n) := Lib.hid fun i hi => hpos _ (getD_mem hi)
  have HO := Lib.hid ho
  have hbt := hb.trans (hb0.mono hb.size)
  have HB := Lib.hid hbt
  have HB0 := Lib.hid hb0
  have sw := hbt.size
  have s0 := hb0.size
  unfold maxLen at mt
  clear H1 hT ho hb0 hb hbt C1 hpos
  go_loopw [8, 9] (fun s8 s9 wr => ∃ j R, j ≤ T.length ∧ s9 = .int .i64 ((j : Nat) : Int) ∧ Hid (RowsOwn wr w1.heap.size s8 R) ∧ Hid (vss R = comb (repF false addF) ((T.take j).map Tr.tl)) ∧ Hid (Below w1.heap.size w1 wr)) (fun _ s9 _ => T.length - (intOf s9).toNat)
  case atStart => exact ⟨0, [], Nat.zero_le _, rfl, Lib.hid (RowsOwn.start _ _), Lib.hid rfl, Lib.hid (Below.refl _ _)⟩
  case round =>
    obtain ⟨j, R, hj, rfl, hR, hE, hBr⟩ := hrel
    have sr := hBr.out.size
    by_cases h1 : j < T.length
    · obtain ⟨b, ea, hbb, hcell⟩ := HD.out.resolve_left (by omega)
      obtain ⟨q0, q1, q2⟩ := hcell j h1
      have r0 := (hBr.out.cell (p := ⟨b, j * 3, none⟩) hbb).trans q0
      have r1 := (hBr.out.cell (p := ⟨b, j * 3 + 1, none⟩) hbb).trans q1
      have r2 := (hBr.out.cell (p := ⟨b, j * 3 + 2, none⟩) hbb).trans q2
      have hbw : b < wr.heap.size := by omega
      have HOK : Hid (Rw.Ok w1 (T.getD j default).row) := Lib.hid ((HO.out.get j).later HB0.out)
      have hsucc := Lib.hid (comb_succ (repF false addF) T h1)
      have hmn := HMN.out j h1
      have hpo := HPO.out j h1
      have HLE : Hid (R.length + (repF false addF) (T.getD j default).m (T.getD j default).n ≤ 20000) := Lib.hid (by
        have e := Nat.le_trans (comb_take_le (repF false addF) T (j + 1)) HCL.out
        rw [hsucc.out, List.length_append, List.length_replicate, ← hE.out, vss_len] at e
        omega)
      have HRc := hR
      have HBc := hBr
      clear q0 q1 q2 hcell HD HO
      subst ea
      generalize T.getD j default = t at *
      obtain ⟨⟨ra, rl, rc, rv⟩, m, k⟩ := t
      simp only [Rw.enc] at r0 r1 r2
      simp only at hmn hpo HLE HOK hsucc
      have HF : Hid ((repF false addF) m k = 1) := Lib.hid (by simp only [repF, addF, Bool.false_eq_true, if_false] <;> omega)
      have HLE2 : Hid (R.length + 1 ≤ 20000) := Lib.hid (by have e := HLE.out; rw [HF.out] at e; omega)
      go_wp2_with (go_at_call 145; ((with_reducible refine (times_calls _ R ra rl rc rv _ 1 w1 _ HRc.out HBc.out HOK.out (by first | omega | (simp; done) | (simp; omega)) (by have := HLE2.out; omega)).mono ?_); rintro e w5 ⟨v5, R5, rfl, hx⟩; have H5 := Lib.hid hx; clear hx))
      go_roundw
      case rel => exact ⟨j + 1, R5, by omega, by go_num, Lib.hid H5.out.1, Lib.hid (by rw [H5.out.2.1, hE.out, hsucc.out, HF.out]), Lib.hid H5.out.2.2⟩
      case measure => simp [intOf]; omega
    · obtain rfl : j = T.length := by omega
      rw [List.take_length] at hE
      go_wp2_with fail
      go_ret
      refine Gives.of ⟨_, R, rfl, hR.out.mono sw, ?_, HB.out.trans (hBr.out.mono sw)⟩
      rw [hE.out]
      exact HC.out
theorem rDistinct_calls (a : Option Addr) (n c : Nat) (l : List Rw) (w : World) (h : Rws w a n l) (hn : n ≤ 10000) (hnc : n ≤ c) (hc : c ≤ maxLen) :
    Calls Tryd.prog 71 #[.slice a n c] w fun e w' => Gives w w' e (repF false addF) (vss l) [] := by
  have C2 : Hid (Calls Tryd.prog 116 #[.slice a n c, .slice none 0 0, .bool false] w fun e w' => Gives w w' e (repF false addF) (vss l) (vss [])) := Lib.hid (rUnion_false a n c l none 0 0 [] w h (Rws.nil w none) hn (by omega) hnc (Nat.le_refl _) hc (Nat.zero_le _))
  clear h
  go_enter Tryd.func71, Tryd.ntmps71
  go_wp2_with (go_at_call 116; ((with_reducible refine C2.out.mono ?_); rintro e w2 ⟨a1, c1, R, rfl, hy⟩; have HY := Lib.hid hy; clear hy))
  go_ret
  exact ⟨a1, c1, R, rfl, HY.out⟩
end Go.Proofs.YtpddkljedhghkaaDoor.BG
