/-
  The list of fractions that the law LinearCombines makes, while it is made. A combination's denominators are not 0, so its numbers do not lie where a fraction 0/0 lies.
-/
import Derived.Test.YthbdkhmgopahbaaJ34
import Derived.Test.YthbdkhmgopahbaaJ25
set_option linter.unusedVariables false
namespace Go.Proofs.Ythbdkhmgopahbaa
open Go Go.RowKit Go.Deep
/-- An argument list of numbers. -/
def NumsA (w : World) (a : Option Addr) (len : Nat) : Prop := len ≤ maxLen ∧ (len = 0 ∨ ∃ b off, a = some ⟨b, off, none⟩ ∧ b < w.heap.size ∧ ∀ i, i < len → ∃ n : Int, (Lit.int .i64 n).wf = true ∧ w.cell? ⟨b, off + i, none⟩ = some (.int .i64 n))
theorem tape_new {w : World} {a : Option Addr} {len cap : Nat} (h : NumsA w a len) : TapeAt w.heap.size 0 (w.alloc (.cells #[.slice a len cap, .int .i64 0] 27)) := by
  refine ⟨a, len, cap, 0, heap_alloc_new w _, Nat.le_refl _, h.1, h.2.imp id ?_⟩
  rintro ⟨b, off, rfl, hb, hc⟩
  refine ⟨b, off, rfl, hb, fun i hi => ?_⟩
  obtain ⟨n, hn, hq⟩ := hc i hi
  exact ⟨n, hn, by rw [World.cell?_of_block (w := w) (Below.heap_alloc _ _ _ hb)]; exact hq⟩
theorem flatF_congr {f f' g g' : Nat → Int} : ∀ {k : Nat}, (∀ i, i < k → f i = f' i ∧ g i = g' i) → flatF f g k = flatF f' g' k
  | 0, _ => rfl
  | k + 1, h => by
    unfold flatF
    rw [flatF_congr fun i hi => h i (Nat.lt_succ_of_lt hi), (h k (Nat.lt_succ_self k)).1, (h k (Nat.lt_succ_self k)).2]
theorem flatF_upd (f g : Nat → Int) (k : Nat) (p q : Int) : flatF (updN f k p) (updN g k q) (k + 1) = flatF f g k ++ [.int .i64 p, .int .i64 q] := by
  conv => lhs; unfold flatF
  rw [updN_at, updN_at, flatF_congr fun i hi => ⟨updN_ne f p (Nat.ne_of_lt hi), updN_ne g q (Nat.ne_of_lt hi)⟩]
/-- j fractions of the call's own are made. -/
structure MadeS (T m j : Nat) (v : Value) (f g : Nat → Int) (W w : World) : Prop where
  tp : Tp T W w
  tape : TapeAt T m w
  tlt : T < W.heap.size
  O : w.ownsRow W.heap.size 34 2 v j (flatF f g j)
  fb : ∀ i, i < j → -4 ≤ f i ∧ f i ≤ 4 ∧ 1 ≤ g i ∧ g i ≤ 2
namespace MadeS
variable {T m m' j : Nat} {v : Value} {f g : Nat → Int} {W w w' : World}
theorem step (h : MadeS T m j v f g W w) (hb : Tp T w w') (ht : TapeAt T m' w') : MadeS T m' j v f g W w' := ⟨h.tp.trans hb, ht, h.tlt, own_tp h.O hb h.tlt, h.fb⟩
theorem below (h : MadeS T m j v f g W w) (hb : Below w.heap.size w w') : MadeS T m j v f g W w' := h.step (Tp.ofBelow hb) (h.tape.later hb)
theorem next (h : MadeS T m j v f g W w) (z : Lat T m' w) : MadeS T m' j v f g W z.val := h.step z.tp z.at_
theorem more (h : MadeS T m j v f g W w) (hm : m ≤ m') : MadeS T m' j v f g W w := { h with tape := h.tape.mono hm }
theorem push {v' : Value} {p q : Int} (h : MadeS T m j v f g W w) (hO : w'.ownsRow W.heap.size 34 2 v' (j + 1) (flatF f g j ++ [.int .i64 p, .int .i64 q])) (hg : w.grownBy w' v.ownBlock) (hr : -4 ≤ p ∧ p ≤ 4 ∧ 1 ≤ q ∧ q ≤ 2) : MadeS T m (j + 1) v' (updN f j p) (updN g j q) W w' := by
  have hT := h.tlt
  have hlo : ∀ k, v.ownBlock = some k → W.heap.size ≤ k := fun k hk => (h.O.lt k hk).1
  refine ⟨h.tp.grown hg hlo, h.tape.upto ((Below.refl _ _).grown hg h.tape.lt fun k hk => by have := hlo k hk; omega), h.tlt, by rw [flatF_upd]; exact hO, fun i hi => ?_⟩
  by_cases hij : i = j
  · subst hij
    rw [updN_at, updN_at]
    exact hr
  · rw [updN_ne _ _ hij, updN_ne _ _ hij]
    exact h.fb i (by omega)
theorem set {b o : Nat} {u : Value} (h : MadeS T m j v f g W w) (hb : W.heap.size ≤ b) (hv : ∀ k, v.ownBlock = some k → k ≠ b) : MadeS T m j v f g W (w.setCell ⟨b, o, none⟩ u) := by
  have hT := h.tlt
  exact ⟨h.tp.setCell (.inl hb) _, h.tape.upto ((Below.refl _ _).setCell (by show T + 1 ≤ b; omega) _), h.tlt, own_set h.O hv, h.fb⟩
end MadeS
theorem two_zz {W : World} {b : Nat} {a0 a1 : Value} {t : TypeId} (h : W.heap[b]? = some (.cells #[a0, a1] t)) :
    b < W.heap.size ∧ W.frozen? ⟨b, 0, none⟩ = false ∧ W.frozen? ⟨b, 1, none⟩ = false ∧ W.cell? ⟨b, 0, none⟩ = some a0 ∧ W.cell? ⟨b, 1, none⟩ = some a1 := by
  refine ⟨(Array.getElem?_eq_some_iff.1 h).1, free_z h _, free_z h _, ?_, ?_⟩
  all_goals
    rw [cell_of_row _ _ _ _ _ (0, 0) h]
    rfl
theorem System_use (T m : Nat) (w : World) (h : TapeAt T m w) (hm : m ≤ 2 ^ 60) :
    Calls Try.prog 7 #[.pointer (some ⟨T, 0, none⟩), .int .i64 5, .int .i64 3, .int .i64 9] w fun e w' => ∃ (y : Sy) (n k : Nat), e = .returned (.agg #[.slice y.U.a y.U.len y.U.cap, .slice y.R.a y.R.len y.R.cap, .slice y.B.a y.B.len y.B.cap]) ∧ 1 ≤ n ∧ n ≤ 5 ∧ k ≤ 3 ∧ SysT T n k 9 1000000000 w' y ∧ Tq T (m + 30000) w w' :=
  System_calls T m 5 3 9 w h (by omega) (by omega) (by omega) (by omega) hm
/-- A list of two lists of fractions. -/
def TwoA (W : World) (bt : Nat) : Prop := ∀ i, i < 2 → ∃ (s : Sl) (mn md : Nat → Int), W.cell? ⟨bt, i, none⟩ = some (.slice s.a s.len s.cap) ∧ FrsA W s mn md ∧ s.len ≤ 12 ∧ ∀ i, i < s.len → In64 (mn i) ∧ In64 (md i)
theorem two_a {W : World} {bt : Nat} {a : Option Addr} {n c : Nat} {s : Sl} {t : TypeId} {mn md f g : Nat → Int} (h : W.heap[bt]? = some (.cells #[.slice a n c, .slice s.a s.len s.cap] t)) (h1 : FrsA W ⟨a, n, c⟩ mn md) (h2 : n ≤ 12) (h3 : ∀ i, i < n → In64 (mn i) ∧ In64 (md i)) (g1 : FrsA W s f g) (g2 : s.len ≤ 12) (g3 : ∀ i, i < s.len → In64 (f i) ∧ In64 (g i)) : TwoA W bt := by
  intro i hi
  rcases (show i = 0 ∨ i = 1 by omega) with rfl | rfl
  · exact ⟨⟨a, n, c⟩, mn, md, by rw [cell_of_row _ _ _ _ _ (0, 0) h]; rfl, h1, h2, h3⟩
  · exact ⟨s, f, g, by rw [cell_of_row _ _ _ _ _ (0, 0) h]; rfl, g1, g2, g3⟩
theorem made_none (W : World) {T m : Nat} (h : TapeAt T m W) : MadeS T m 0 (.slice (some ⟨W.heap.size, 0, none⟩) 0 0) (fun _ => 0) (fun _ => 1) W (W.alloc (.cells #[] 34)) :=
  ⟨(Tp.refl _ _).alloc _, h.later ((Below.refl _ _).alloc (Nat.le_refl _) _), h.lt, ⟨rfl, .inr ⟨W.heap.size, 0, #[], rfl, Nat.le_refl _, heap_alloc_new _ _, Nat.le_refl _, Nat.zero_le _, rfl, rfl⟩⟩, fun i hi => absurd hi (Nat.not_lt_zero _)⟩
end Go.Proofs.Ythbdkhmgopahbaa
set_option linter.unusedVariables false
namespace Go.Proofs.Ythbdkhmgopahbaa
open Go Go.RowKit Go.Deep
theorem cbD_ne {y : Sy} {n : Nat} {mn md : Nat → Int} (h : cmE y n mn md = 0) : ∀ k, k < y.U.len → cbD y n mn md k ≠ 0 := by
  intro k hk
  unfold cmE at h
  by_cases h1 : vaS y = 0
  case neg => rw [if_pos h1] at h; exact absurd h h1
  rw [if_neg (by simpa using h1)] at h
  by_cases h2 : n = y.R.len
  case neg => rw [if_pos h2] at h; omega
  rw [if_neg (by simpa using h2)] at h
  by_cases h3 : anyB (fun i => !vaB (mn i) (md i)) n = true
  case pos => rw [if_pos h3] at h; omega
  rw [if_neg h3] at h
  by_cases h4 : (cmR y n mn md && !anyB (fun k => !cmOk y n mn md k) y.U.len) = true
  case neg => rw [if_neg h4] at h; omega
  simp only [Bool.and_eq_true, Bool.not_eq_true'] at h4
  have h5 := anyB_no.1 h4.2 k hk
  simp only [Bool.not_eq_false'] at h5
  have h6 := anyB_no.1 (by simpa using h3 : anyB (fun i => !vaB (mn i) (md i)) n = false)
  have hD : 0 < totD (fdN md) n := totD_pos n fun i hi => by
    have h7 := h6 i hi
    simp only [Bool.not_eq_false'] at h7
    have := (vaB_rng h7).1
    show 0 < (md i).natAbs
    omega
  unfold cbD frD
  unfold cmOk at h5
  rw [if_pos h5]
  have := frd_pos (totN (fun i => y.co i k) mn (fdN md) n) hD
  omega
theorem CmbR.frs2 {y : Sy} {n : Nat} {mn md : Nat → Int} {w w' : World} {e : Ending} (h : CmbR y n mn md w e w') : ∃ s : Sl, e = .returned (.tuple #[.slice s.a s.len s.cap, .agg #[.int .i64 (cmN y n mn md), .int .i64 (cmD y n mn md)], .int .i64 (cmE y n mn md)]) ∧ s.len = (if cmE y n mn md = 0 then y.U.len else 0) ∧ FrsA w' s (cbN y n mn md) (cbD y n mn md) ∧ (∀ k, k < (if cmE y n mn md = 0 then y.U.len else 0) → cbD y n mn md k ≠ 0) ∧ Cls w w' := by
  obtain ⟨s, h1, h2, h3, h4⟩ := CmbR.frs h
  refine ⟨s, h1, h2, h3, fun k hk => ?_, h4⟩
  by_cases h5 : cmE y n mn md = 0
  · rw [if_pos h5] at hk
    exact cbD_ne h5 k hk
  · rw [if_neg h5] at hk
    exact absurd hk (Nat.not_lt_zero _)
/-- Where a fraction 0/0 lies, these numbers don't. -/
theorem FrsA.past {W : World} {s : Sl} {f g : Nat → Int} {B L : Nat} {t : TypeId} (h : FrsA W s f g) (hl : s.len = L) (hb : W.heap[B]? = some (.cells #[.int .i64 0, .int .i64 0] t)) (hg : ∀ k, k < L → g k ≠ 0) (v0 v1 : Value) : FrsA ((W.setCell ⟨B, 0, none⟩ v0).setCell ⟨B, 1, none⟩ v1) s f g := by
  by_cases h0 : s.len = 0
  · exact ⟨h.1, h.2.1, .inl h0⟩
  · refine h.store2 ?_ v0 v1
    rintro c o hc rfl
    obtain ⟨b, off, ha, hlt, hq⟩ := h.2.2.resolve_left h0
    rw [hc] at ha
    simp only [Option.some.injEq, Addr.mk.injEq, and_true] at ha
    obtain ⟨rfl, rfl⟩ := ha
    obtain ⟨q0, q1⟩ := hq 0 (by omega)
    have hne := hg 0 (by omega)
    rw [cell_of_row _ _ _ _ _ (0, 0) hb] at q1
    simp only [Nat.zero_mul, Nat.add_zero] at q1
    rcases (show o = 0 ∨ 1 ≤ o by omega) with rfl | h3
    · simp at q1
      exact hne q1.symm
    · have : (#[Value.int .i64 0, .int .i64 0] : Array Value)[o + 1]? = none := by
        rw [Array.getElem?_eq_none_iff]
        simp
        omega
      rw [this] at q1
      cases q1
end Go.Proofs.Ythbdkhmgopahbaa
