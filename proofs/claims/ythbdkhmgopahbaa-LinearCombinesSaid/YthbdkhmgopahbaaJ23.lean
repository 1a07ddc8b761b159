/-
  A list of fractions of any size of one's own, whose digits lie outside the list's block. A sum of any size that grows term by term: its digits lie in blocks that are new since the sum began. What a whole list of fractions of any size holds.
-/
import Derived.Test.YthbdkhmgopahbaaJ21
import Derived.Maps.AppendAt
import Derived.Test.YthbdkhmgopahbaaJ17
import Derived.Test.YthbdkhmgopahbaaJ22
set_option linter.unusedVariables false
namespace Go.Proofs.Ythbdkhmgopahbaa
open Go Go.RowKit Go.Deep
/-- The slice's cells lie outside the block that holds the list v. -/
def Off (v : Value) (s : Sl) : Prop := s.len ≠ 0 → ∀ b off, s.a = some ⟨b, off, none⟩ → v.ownBlock ≠ some b
theorem NumAt.keep {W W' : World} {v : Value} {s : Sl} {m : Nat} (h : NumAt W s m) (hg : W.grownBy W' v.ownBlock) (ho : Off v s) : NumAt W' s m := by
  obtain ⟨h1, h2, h3, h4⟩ := h
  refine ⟨h1, h2, h3, ?_⟩
  rcases h4 with h4 | ⟨b, off, ha, hb, hc⟩
  · exact .inl h4
  · by_cases h0 : s.len = 0
    · exact .inl h0
    · have hk := hg.block b hb (fun e => ho h0 b off ha e.symm)
      exact .inr ⟨b, off, ha, Nat.lt_of_lt_of_le hb hg.size, fun i hi => (World.cell?_of_block (a := ⟨b, off + i, none⟩) hk).trans (hc i hi)⟩
theorem Off.grown {W : World} {v v' : Value} {s : Sl} {m : Nat} (h : NumAt W s m) (ho : Off v s) (hv : v'.ownBlock = v.ownBlock ∨ v'.ownBlock = some W.heap.size) : Off v' s := by
  intro h0 b off ha
  rcases hv with e | e
  · rw [e]; exact ho h0 b off ha
  · rw [e]
    obtain ⟨_, _, _, h4⟩ := h
    rcases h4 with h4 | ⟨b', off', ha', hb, _⟩
    · exact absurd h4 h0
    · rw [ha] at ha'
      simp only [Option.some.injEq, Addr.mk.injEq] at ha'
      intro hh
      simp only [Option.some.injEq] at hh
      omega
/-- The cells of such a list. -/
def flatB : List (Bool × Sl × Sl) → List Value
  | [] => []
  | e :: l => .bool e.1 :: .slice e.2.1.a e.2.1.len e.2.1.cap :: .slice e.2.2.a e.2.2.len e.2.2.cap :: flatB l
theorem flatB_append (l m : List (Bool × Sl × Sl)) : flatB (l ++ m) = flatB l ++ flatB m := by
  induction l with
  | nil => rfl
  | cons e l ih => simp [flatB, ih]
theorem flatB_length (l : List (Bool × Sl × Sl)) : (flatB l).length = l.length * 3 := by
  induction l with
  | nil => rfl
  | cons e l ih => simp [flatB, ih]; omega
theorem flatB_at (l : List (Bool × Sl × Sl)) (i : Nat) (e : Bool × Sl × Sl) (h : l[i]? = some e) : (flatB l)[i * 3]? = some (.bool e.1) ∧ (flatB l)[i * 3 + 1]? = some (.slice e.2.1.a e.2.1.len e.2.1.cap) ∧ (flatB l)[i * 3 + 2]? = some (.slice e.2.2.a e.2.2.len e.2.2.cap) := by
  induction l generalizing i with
  | nil => simp at h
  | cons x l ih =>
    cases i with
    | zero =>
      simp at h
      subst h
      exact ⟨rfl, rfl, rfl⟩
    | succ i =>
      have := ih i (by simpa using h)
      rw [show (i + 1) * 3 = i * 3 + 3 by omega]
      simpa [flatB] using this
/-- A list of one's own that holds the first k fractions of N over D. -/
def OutB (base : Nat) (N : Nat → Int) (D k : Nat) (v : Value) (W : World) : Prop :=
  ∃ L : List (Bool × Sl × Sl), L.length = k ∧ W.ownsRow base 67 3 v k (flatB L) ∧ ∀ i e, L[i]? = some e → e.1 = decide (frI (N i) D < 0) ∧ NumAt W e.2.1 (frI (N i) D).natAbs ∧ NumAt W e.2.2 (frd (N i) D) ∧ Off v e.2.1 ∧ Off v e.2.2
theorem OutB.nil (base : Nat) (N : Nat → Int) (D : Nat) (W : World) : OutB base N D 0 (.slice none 0 0) W := ⟨[], rfl, World.ownsRow_nil _ _ _ 3, fun i e h => by simp at h⟩
theorem OutB.later {base : Nat} {N : Nat → Int} {D k : Nat} {v : Value} {W W' : World} (h : OutB base N D k v W) (hb : Below W.heap.size W W') : OutB base N D k v W' := by
  obtain ⟨L, h1, h2, h3⟩ := h
  exact ⟨L, h1, own_later' h2 hb, fun i e he => by obtain ⟨a, b, c, d⟩ := h3 i e he; exact ⟨a, b.later hb, c.later hb, d⟩⟩
/-- One more is appended. -/
theorem OutB.next {base : Nat} {N : Nat → Int} {D k : Nat} {v v' : Value} {W W' : World} {g : Bool} {s t : Sl} {L : List (Bool × Sl × Sl)} (h1 : L.length = k) (h3 : ∀ i e, L[i]? = some e → e.1 = decide (frI (N i) D < 0) ∧ NumAt W e.2.1 (frI (N i) D).natAbs ∧ NumAt W e.2.2 (frd (N i) D) ∧ Off v e.2.1 ∧ Off v e.2.2)
    (hown : W'.ownsRow base 67 3 v' (k + 1) (flatB L ++ [.bool g, .slice s.a s.len s.cap, .slice t.a t.len t.cap])) (hg : W.grownBy W' v.ownBlock) (hv : v'.ownBlock = v.ownBlock ∨ v'.ownBlock = some W.heap.size)
    (e1 : g = decide (frI (N k) D < 0)) (e2 : NumAt W s (frI (N k) D).natAbs) (e3 : NumAt W t (frd (N k) D)) (o1 : Off v s) (o2 : Off v t) : OutB base N D (k + 1) v' W' := by
  refine ⟨L ++ [(g, s, t)], by simp [h1], by rw [flatB_append]; exact hown, fun i e he => ?_⟩
  by_cases hi : i < k
  · rw [List.getElem?_append_left (by omega)] at he
    obtain ⟨a, b, c, d1, d2⟩ := h3 i e he
    exact ⟨a, b.keep hg d1, c.keep hg d2, d1.grown b hv, d2.grown c hv⟩
  · have hi2 : i = k := by
      have := (List.getElem?_eq_some_iff.1 he).1
      simp at this
      omega
    subst hi2
    rw [List.getElem?_append_right (by omega)] at he
    simp [h1] at he
    subst he
    exact ⟨e1, e2.keep hg o1, e3.keep hg o2, o1.grown e2 hv, o2.grown e3 hv⟩
end Go.Proofs.Ythbdkhmgopahbaa
set_option linter.unusedVariables false
namespace Go.Proofs.Ythbdkhmgopahbaa
open Go Go.RowKit Go.Deep
theorem RBigF.congr {w w' : World} {e : Ending} {N N' : Int} {D D' : Nat} (h1 : frI N D = frI N' D') (h2 : frd N D = frd N' D') (h : RBigF w N D e w') : RBigF w N' D' e w' := by
  obtain ⟨s, t, he, hs, ht, hf1, hf2, hc⟩ := h
  generalize frI N D = v at *
  generalize frd N D = d at *
  subst h1 h2
  exact ⟨s, t, he, hs, ht, hf1, hf2, hc⟩
set_option maxHeartbeats 400000 in
set_option maxRecDepth 20000 in
theorem radd_fresh (N : Int) (D : Nat) (fn co fd : Int) (hD : 0 < D) (hN : N.natAbs < wp 33) (hDw : D < wp 33) (hv : vaB fn fd = true) (hc : co.natAbs < 9223372036854775808) (W : World) (s t s4 t4 : Sl) (h1 : NumAt W s (frI N D).natAbs) (h2 : NumAt W t (frd N D)) (h3 : NumAt W s4 (frI (fn * co) (fd.natAbs * 1)).natAbs) (h4 : NumAt W t4 (frd (fn * co) (fd.natAbs * 1))) :
    Calls Try.prog 41 #[.agg #[.bool (decide (frI N D < 0)), .slice s.a s.len s.cap, .slice t.a t.len t.cap], .agg #[.bool (decide (frI (fn * co) (fd.natAbs * 1) < 0)), .slice s4.a s4.len s4.cap, .slice t4.a t4.len t4.cap]] W (RBigF W (N * (fd.natAbs : Nat) + co * fn * (D : Int)) (D * fd.natAbs)) := by
  obtain ⟨b1, b2, b3, b4⟩ := vaB_rng hv
  have hf : 0 < fd.natAbs * 1 := by omega
  have n1 : (fn * co).natAbs < wp 2 := by rw [Int.natAbs_mul]; exact wp_mul (wp_one (by omega)) (wp_one (by omega))
  have n2 : fd.natAbs * 1 < wp 1 := by rw [Nat.mul_one]; exact wp_one (by omega)
  have k1 : (frI N D).natAbs < 1000000000 ^ 100 := wp_big (frI_lt hN) (by omega)
  have k2 : frd N D < 1000000000 ^ 100 := wp_big (frd_lt hDw) (by omega)
  have k3 : (frI (fn * co) (fd.natAbs * 1)).natAbs < 1000000000 ^ 100 := wp_big (frI_lt n1) (by omega)
  have k4 : frd (fn * co) (fd.natAbs * 1) < 1000000000 ^ 100 := wp_big (frd_lt n2) (by omega)
  have k5 : 0 < frd N D * frd (fn * co) (fd.natAbs * 1) := Nat.mul_pos (frd_pos _ hD) (frd_pos _ hf)
  have hp := Plus_fresh (frI N D) (frI (fn * co) (fd.natAbs * 1)) (frd N D) (frd (fn * co) (fd.natAbs * 1)) s.a s.len s.cap t.a t.len t.cap s4.a s4.len s4.cap t4.a t4.len t4.cap W h1 h2 h3 h4 k1 k2 k3 k4 k5
  clear k1 k2 k3 k4
  obtain ⟨e1, e2⟩ := fr_add N (fn * co) hD hf
  have e3 : N * ((fd.natAbs * 1 : Nat) : Int) + fn * co * (D : Int) = N * (fd.natAbs : Nat) + co * fn * (D : Int) := by rw [Nat.mul_one, Int.mul_comm fn co]
  have e4 : D * (fd.natAbs * 1) = D * fd.natAbs := by rw [Nat.mul_one]
  exact hp.mono fun e w' h => RBigF.congr (e1.trans (congr (congrArg frI e3) e4)) (e2.trans (congr (congrArg frd e3) e4)) h
set_option maxHeartbeats 8000000 in
set_option maxRecDepth 20000 in
theorem rWhole_fresh (n : Int) (w : World) (h : In64 n) :
    Calls Try.prog 38 #[.int .i64 n] w fun e w' => ∃ s t : Sl, e = .returned (.agg #[.bool (decide (n < 0)), .slice s.a s.len s.cap, .slice t.a t.len t.cap]) ∧ NumAt w' s n.natAbs ∧ NumAt w' t 1 ∧ Fr w t ∧ Cls w w' := by
  have C1 := Lib.hid (fun W => of_calls n W h.1 h.2)
  clear h
  go_enter Try.func38, Try.ntmps38
  go_wp2_with (go_at_call 67; (with_reducible refine (C1.out _).mono ?_); rintro e _ ⟨s, rfl, hs, ⟨y, rfl⟩⟩; have ys := y.size; (try simp at ys); have ya : w.heap.size < y.val.heap.size := (by omega); have HT := Lib.hid ((y.below.block w.heap.size (by simp)).trans (heap_alloc_new w _)); obtain ⟨k0, k1, k2, k3, k4, k5, k6⟩ := three_b HT.out)
  have HB : Below w.heap.size w y.val := by repeat first | with_reducible exact Below.refl _ _ | with_reducible refine Below.setCell ?_ (by first | omega | (simp; done) | (simp; omega)) _ | with_reducible refine Below.alloc ?_ (by first | omega | (simp; done) | (simp; omega)) _ | with_reducible refine Below.drew ?_ | with_reducible refine Ext.on _ ?_ (by first | omega | (simp; done) | (simp; omega))
  have H1 : ∀ v0 v1 v2 o, NumAt ((((y.val.setCell ⟨w.heap.size, 0, none⟩ v0).setCell ⟨w.heap.size, 1, none⟩ v1).setCell ⟨w.heap.size, 2, none⟩ v2).alloc o) s n.natAbs := fun v0 v1 v2 o => (NumAt.store3 hs HT.out v0 v1 v2).later ((Below.refl _ _).alloc (Nat.le_refl _) _)
  have H2 : ∀ v0 v1 v2, NumAt ((((y.val.setCell ⟨w.heap.size, 0, none⟩ v0).setCell ⟨w.heap.size, 1, none⟩ v1).setCell ⟨w.heap.size, 2, none⟩ v2).alloc (.cells #[.int .u64 1] 91)) ⟨some ⟨y.val.heap.size, 0, none⟩, 1, 1⟩ 1 := fun v0 v1 v2 => by
    have := one_num (((y.val.setCell ⟨w.heap.size, 0, none⟩ v0).setCell ⟨w.heap.size, 1, none⟩ v1).setCell ⟨w.heap.size, 2, none⟩ v2) 91
    simpa using this
  refine ret_ex rfl ⟨.agg #[.bool (decide (n < 0)), .slice s.a s.len s.cap, .slice (some ⟨y.val.heap.size, 0, none⟩) 1 1], by simp [results, Try.results38, go_sem, k4, k5, k6, ya], ⟨s, ⟨some ⟨y.val.heap.size, 0, none⟩, 1, 1⟩, rfl, ?_, ?_, (fun b off h => by simp only [Option.some.injEq, Addr.mk.injEq] at h; omega), ?_⟩⟩
  · exact H1 _ _ _ _
  · exact H2 _ _ _
  · exact Cls.of ((below3 HB (Nat.le_refl _) _ _ _).alloc (by simpa using Nat.le_of_lt ya) _)
/-- No digits, or digits in blocks that are new since w. -/
def FrL (w : World) (s : Sl) : Prop := s.len = 0 ∨ Fr w s
theorem FrL.off {w : World} {s : Sl} {v : Value} (h : FrL w s) (hv : ∀ g, v.ownBlock = some g → g < w.heap.size) : Off v s := by
  intro h0 b off ha e
  rcases h with h | h
  · exact h0 h
  · have h1 := h b off ha
    have h2 := hv b e
    omega
theorem FrL.of {w W : World} {s : Sl} (h : Fr W s) (hb : w.heap.size ≤ W.heap.size) : FrL w s := .inr fun b off ha => Nat.le_trans hb (h b off ha)
theorem FrL.zero {w W : World} {s : Sl} (h : NumAt W s 0) : FrL w s := .inl (by have := h.1; rw [digs_zero] at this; exact this)
/-- Where the reference's sum lies, its digits in blocks that are new since w0. -/
def RTotF (w0 : World) (b : Nat) (N : Int) (D : Nat) (wr : World) : Prop := ∃ s t : Sl, wr.heap[b]? = some (.cells #[.bool (decide (frI N D < 0)), .slice s.a s.len s.cap, .slice t.a t.len t.cap] 67) ∧ NumAt wr s (frI N D).natAbs ∧ NumAt wr t (frd N D) ∧ FrL w0 s ∧ FrL w0 t ∧ w0.heap.size ≤ b ∧ Below w0.heap.size w0 wr
theorem RTotF.mk' {w0 W : World} {b : Nat} {N : Int} {D : Nat} {x : Bool} {s t : Sl} {a a' : Option Addr} {n c n' c' : Nat} (hT : W.heap[b]? = some (.cells #[.bool x, .slice a n c, .slice a' n' c'] 67)) (hbb : w0.heap.size ≤ b) (hs : NumAt W s (frI N D).natAbs) (ht : NumAt W t (frd N D)) (f1 : FrL w0 s) (f2 : FrL w0 t) (hb : Below w0.heap.size w0 W) :
    RTotF w0 b N D (((W.setCell ⟨b, 0, none⟩ (.bool (decide (frI N D < 0)))).setCell ⟨b, 1, none⟩ (.slice s.a s.len s.cap)).setCell ⟨b, 2, none⟩ (.slice t.a t.len t.cap)) := by
  obtain ⟨s', t', q1, q2, q3, q4, q5⟩ := RTotAt.mk' (N := N) (D := D) hT hbb hs ht hb
  refine ⟨s, t, ?_, NumAt.store3 hs hT _ _ _, NumAt.store3 ht hT _ _ _, f1, f2, hbb, below3 hb hbb _ _ _⟩
  rw [heap_setCell_same _ _ _ _ _ _ (heap_setCell_same _ _ _ _ _ _ (heap_setCell_same _ _ _ _ _ _ hT))]
  simp
theorem RTotF.scale {w0 wr : World} {b : Nat} {N N' : Int} {D D' : Nat} (h1 : frI N' D' = frI N D) (h2 : frd N' D' = frd N D) (h : RTotF w0 b N D wr) : RTotF w0 b N' D' wr := by
  obtain ⟨s, t, a1, a2, a3, a4⟩ := h
  exact ⟨s, t, by rw [h1]; exact a1, by rw [h1]; exact a2, by rw [h2]; exact a3, a4⟩
end Go.Proofs.Ythbdkhmgopahbaa
set_option linter.unusedVariables false
namespace Go.Proofs.Ythbdkhmgopahbaa
open Go Go.RowKit Go.Deep
/-- The slice holds these fractions of any size. -/
def BigsA (w : World) (s : Sl) (N : Nat → Int) (D : Nat) : Prop :=
  s.len ≤ s.cap ∧ s.cap ≤ maxLen ∧ ∃ sk tk : Nat → Sl, (∀ i, i < s.len → NumAt w (sk i) (frI (N i) D).natAbs ∧ NumAt w (tk i) (frd (N i) D)) ∧ (s.len = 0 ∨ ∃ b off, s.a = some ⟨b, off, none⟩ ∧ b < w.heap.size ∧ ∀ i, i < s.len →
    w.cell? ⟨b, off + i * 3, none⟩ = some (.bool (decide (frI (N i) D < 0))) ∧ w.cell? ⟨b, off + i * 3 + 1, none⟩ = some (.slice (sk i).a (sk i).len (sk i).cap) ∧ w.cell? ⟨b, off + i * 3 + 2, none⟩ = some (.slice (tk i).a (tk i).len (tk i).cap))
theorem BigsA.later {w w' : World} {s : Sl} {N : Nat → Int} {D : Nat} (h : BigsA w s N D) (hb : Below w.heap.size w w') : BigsA w' s N D := by
  obtain ⟨h1, h2, sk, tk, h3, h4⟩ := h
  refine ⟨h1, h2, sk, tk, fun i hi => ⟨(h3 i hi).1.later hb, (h3 i hi).2.later hb⟩, h4.imp id ?_⟩
  rintro ⟨b, off, ha, hlt, hc⟩
  refine ⟨b, off, ha, Nat.lt_of_lt_of_le hlt hb.size, fun i hi => ?_⟩
  rw [hb.cell (p := ⟨b, _, none⟩) hlt, hb.cell (p := ⟨b, _, none⟩) hlt, hb.cell (p := ⟨b, _, none⟩) hlt]
  exact hc i hi
theorem OutB.bigs {base : Nat} {N : Nat → Int} {D k : Nat} {v : Value} {W : World} (h : OutB base N D k v W) : ∃ s : Sl, v = .slice s.a s.len s.cap ∧ s.len = k ∧ BigsA W s N D := by
  obtain ⟨L, h1, h2, h3⟩ := h
  have hat : ∀ i, i < k → ∃ e, L[i]? = some e ∧ L.getD i (false, Sl.z, Sl.z) = e := fun i hi => by
    have hl : i < L.length := by omega
    exact ⟨L[i], by simp [hl], by simp [List.getD, hl]⟩
  rcases h2.2 with ⟨rfl, h0⟩ | ⟨g, cap, cur, rfl, hb, hh, hn, hc, hr, ht⟩
  · exact ⟨⟨none, 0, 0⟩, rfl, h0.symm, Nat.le_refl _, Nat.zero_le _, fun _ => Sl.z, fun _ => Sl.z, fun i hi => absurd hi (Nat.not_lt_zero _), .inl rfl⟩
  · refine ⟨⟨some ⟨g, 0, none⟩, k, cap⟩, rfl, rfl, hn, hc, fun i => (L.getD i (false, Sl.z, Sl.z)).2.1, fun i => (L.getD i (false, Sl.z, Sl.z)).2.2, fun i hi => ?_, .inr ⟨g, 0, rfl, (Array.getElem?_eq_some_iff.1 hh).1, fun i hi => ?_⟩⟩
    · obtain ⟨e, he, hd⟩ := hat i hi
      obtain ⟨_, b, c, _⟩ := h3 i e he
      simp only [hd]
      exact ⟨b, c⟩
    · obtain ⟨e, he, hd⟩ := hat i hi
      obtain ⟨a, _⟩ := h3 i e he
      obtain ⟨f0, f1, f2⟩ := flatB_at L i e he
      have hcell := World.ownsRow.cells h2 (g := g) rfl
      have c0 := hcell _ _ f0
      have c1 := hcell _ _ f1
      have c2 := hcell _ _ f2
      rw [add_none] at c0 c1 c2
      rw [a] at c0
      simp only [hd]
      exact ⟨c0, by rw [Nat.add_assoc]; exact c1, by rw [Nat.add_assoc]; exact c2⟩
theorem OutB.old {base : Nat} {N : Nat → Int} {D k : Nat} {v : Value} {W : World} (h : OutB base N D k v W) : ∀ g, v.ownBlock = some g → g < W.heap.size := by
  obtain ⟨L, h1, h2, h3⟩ := h
  intro g hg
  rcases h2.2 with ⟨rfl, h0⟩ | ⟨g', cap, cur, rfl, hb, hh, _⟩
  · cases hg
  · have e : g' = g := Option.some.inj hg
    rw [← e]; exact (Array.getElem?_eq_some_iff.1 hh).1
theorem OutB.base_le {base size n : Nat} {e : TypeId} {v : Value} {xs : List Value} {W : World} (h : W.ownsRow base e size v n xs) {g : Nat} (hg : v.ownBlock = some g) : base ≤ g := by
  rcases h.2 with ⟨rfl, h0⟩ | ⟨g', cap, cur, rfl, hb, hh, _⟩
  · cases hg
  · have e : g' = g := Option.some.inj hg
    rw [← e]; exact hb
theorem infoBig : (Try.prog.info? 67).map (fun i => (i.zero, i.size, i.bytes)) = some (some (.agg #[.bool false, .slice none 0 0, .slice none 0 0]), 3, 56) := by kernel_rfl
theorem one_b (g : Bool) (a : Option Addr) (n c : Nat) (a' : Option Addr) (n' c' : Nat) : ∀ u ∈ [Value.bool g, .slice a n c, .slice a' n' c'], u.oneCell' = true := by
  intro u hu
  simp at hu
  rcases hu with rfl | rfl | rfl <;> rfl
end Go.Proofs.Ythbdkhmgopahbaa
