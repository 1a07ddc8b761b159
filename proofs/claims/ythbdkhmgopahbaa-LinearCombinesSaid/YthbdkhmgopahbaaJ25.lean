/-
  A list of fractions of one's own, made by append. The program's CheckLattice. The reference's Combine gives what the program's gives.
-/
import Derived.Test.YthbdkhmgopahbaaJ23
import Derived.Test.YthbdkhmgopahbaaJ20
import Derived.Test.YthbdkhmgopahbaaJ24
set_option linter.unusedVariables false
namespace Go.Proofs.Ythbdkhmgopahbaa
open Go Go.RowKit Go.Deep
/-- The cells of the first k fractions. -/
def flatF (f g : Nat → Int) : Nat → List Value
  | 0 => []
  | k + 1 => flatF f g k ++ [.int .i64 (f k), .int .i64 (g k)]
theorem flatF_length (f g : Nat → Int) : ∀ k, (flatF f g k).length = k * 2
  | 0 => rfl
  | k + 1 => by simp [flatF, flatF_length f g k]; omega
theorem flatF_at (f g : Nat → Int) : ∀ k i, i < k → (flatF f g k)[i * 2]? = some (.int .i64 (f i)) ∧ (flatF f g k)[i * 2 + 1]? = some (.int .i64 (g i))
  | 0, i, h => absurd h (Nat.not_lt_zero _)
  | k + 1, i, h => by
    unfold flatF
    by_cases hi : i < k
    · rw [List.getElem?_append_left (by rw [flatF_length]; omega), List.getElem?_append_left (by rw [flatF_length]; omega)]
      exact flatF_at f g k i hi
    · obtain rfl : i = k := by omega
      rw [List.getElem?_append_right (by rw [flatF_length]; omega), List.getElem?_append_right (by rw [flatF_length]; omega), flatF_length]
      simp
/-- A list of one's own that holds the first k fractions. -/
def OutF (base : Nat) (f g : Nat → Int) (k : Nat) (v : Value) (W : World) : Prop := W.ownsRow base 34 2 v k (flatF f g k)
theorem OutF.nil (base : Nat) (f g : Nat → Int) (W : World) : OutF base f g 0 (.slice none 0 0) W := World.ownsRow_nil _ _ _ 2
theorem OutF.later {base : Nat} {f g : Nat → Int} {k : Nat} {v : Value} {W W' : World} (h : OutF base f g k v W) (hb : Below W.heap.size W W') : OutF base f g k v W' := own_later' h hb
theorem OutF.frs {base : Nat} {f g : Nat → Int} {k : Nat} {v : Value} {W : World} (h : OutF base f g k v W) : ∃ s : Sl, v = .slice s.a s.len s.cap ∧ s.len = k ∧ FrsA W s f g ∧ ∀ b off, s.a = some ⟨b, off, none⟩ → base ≤ b := by
  have hh : W.ownsRow base 34 2 v k (flatF f g k) := h
  rcases hh.2 with ⟨rfl, h0⟩ | ⟨g', cap, cur, rfl, hb, hh', hn, hc, hr, ht⟩
  · exact ⟨⟨none, 0, 0⟩, rfl, h0.symm, ⟨Nat.le_refl _, Nat.zero_le _, .inl rfl⟩, fun b off e => by cases e⟩
  · refine ⟨⟨some ⟨g', 0, none⟩, k, cap⟩, rfl, rfl, ⟨hn, hc, .inr ⟨g', 0, rfl, (Array.getElem?_eq_some_iff.1 hh').1, fun i hi => ?_⟩⟩, fun b off e => by simp at e; omega⟩
    obtain ⟨f0, f1⟩ := flatF_at f g k i hi
    have hcell := World.ownsRow.cells hh (g := g') rfl
    have c0 := hcell _ _ f0
    have c1 := hcell _ _ f1
    rw [add_none] at c0 c1
    exact ⟨c0, by rw [Nat.add_assoc]; exact c1⟩
theorem one_f (p q : Int) : ∀ u ∈ [Value.int .i64 p, .int .i64 q], u.oneCell' = true := by
  intro u hu
  simp at hu
  rcases hu with rfl | rfl <;> rfl
/-- The cells of a list of fractions do not change where another block is stored into. -/
theorem FrsA.store2 {W : World} {s : Sl} {f g : Nat → Int} {T : Nat} (h : FrsA W s f g) (hne : ∀ b off, s.a = some ⟨b, off, none⟩ → b ≠ T) (v0 v1 : Value) : FrsA ((W.setCell ⟨T, 0, none⟩ v0).setCell ⟨T, 1, none⟩ v1) s f g := by
  obtain ⟨h1, h2, h3⟩ := h
  refine ⟨h1, h2, h3.imp id ?_⟩
  rintro ⟨b, off, ha, hlt, hc⟩
  have hb : b ≠ T := hne b off ha
  have hk : ((W.setCell ⟨T, 0, none⟩ v0).setCell ⟨T, 1, none⟩ v1).heap[b]? = W.heap[b]? := by
    rw [heap_setCell_other _ _ _ _ hb, heap_setCell_other _ _ _ _ hb]
  refine ⟨b, off, ha, by simpa using hlt, fun i hi => ?_⟩
  obtain ⟨q0, q1⟩ := hc i hi
  exact ⟨(World.cell?_of_block (a := ⟨b, off + i * 2, none⟩) hk).trans q0, (World.cell?_of_block (a := ⟨b, off + i * 2 + 1, none⟩) hk).trans q1⟩
end Go.Proofs.Ythbdkhmgopahbaa
set_option linter.unusedVariables false
namespace Go.Proofs.Ythbdkhmgopahbaa
open Go Go.RowKit Go.Deep
/-- The numerators and denominators of a combination. -/
def cbN (y : Sy) (n : Nat) (mn md : Nat → Int) (k : Nat) : Int := frN (totN (fun i => y.co i k) mn (fdN md) n) (totD (fdN md) n)
def cbD (y : Sy) (n : Nat) (mn md : Nat → Int) (k : Nat) : Int := frD (totN (fun i => y.co i k) mn (fdN md) n) (totD (fdN md) n)
def crN (y : Sy) (n : Nat) (mn md : Nat → Int) : Int := frN (totN y.rt mn (fdN md) n) (totD (fdN md) n)
def crD (y : Sy) (n : Nat) (mn md : Nat → Int) : Int := frD (totN y.rt mn (fdN md) n) (totD (fdN md) n)
theorem CmbR.no {y : Sy} {n : Nat} {mn md : Nat → Int} {w w' : World} {e : Ending} (h : CmbR y n mn md w e w') (hc : cmE y n mn md ≠ 0) : e = .returned (.tuple #[.slice none 0 0, .agg #[.int .i64 0, .int .i64 0], .int .i64 (cmE y n mn md)]) ∧ Cls w w' := by
  obtain ⟨s, he, _, h8, hcl⟩ := h
  have := h8 hc
  subst this
  unfold cmN cmD at he
  rw [if_neg hc, if_neg hc] at he
  exact ⟨he, hcl⟩
theorem CmbR.yes {y : Sy} {n : Nat} {mn md : Nat → Int} {w w' : World} {e : Ending} (h : CmbR y n mn md w e w') (hc : cmE y n mn md = 0) : ∃ (a : Option Addr) (c : Nat), e = .returned (.tuple #[.slice a y.U.len c, .agg #[.int .i64 (crN y n mn md), .int .i64 (crD y n mn md)], .int .i64 0]) ∧ FrsA w' ⟨a, y.U.len, c⟩ (cbN y n mn md) (cbD y n mn md) ∧ Cls w w' := by
  obtain ⟨⟨a, l, c⟩, he, h0, _, hcl⟩ := h
  obtain ⟨hl, hf⟩ := h0 hc
  have hl' : l = y.U.len := hl
  subst hl'
  unfold cmN cmD at he
  rw [if_pos hc, if_pos hc, hc] at he
  exact ⟨a, c, he, hf, hcl⟩
set_option maxHeartbeats 4000000 in
set_option maxRecDepth 20000 in
theorem index_lat (a : Option Addr) (sn sc : Nat) (f g : Nat → Int) (p : Nat → Bool)  (w : World) (hs : FrsA w ⟨a, sn, sc⟩ f g) (C : ∀ (W : World), Below w.heap.size w W → ∀ j, j < sn → Calls Try.prog 31 #[.agg #[.int .i64 (f j), .int .i64 (g j)]] W fun e w' => e = .returned (.bool (p j)) ∧ Cls W w') :
    Calls Try.prog 64 #[.slice a sn sc, .func (.func 31) #[] #[]] w fun e w' => e = .returned (.int .i64 (fstI p 0 sn)) ∧ Cls w w' := by
  obtain ⟨hle, hmax, hh⟩ := hs
  simp only at hle hmax hh
  unfold maxLen at hmax
  have H := Lib.hid hh
  have HC := Lib.hid C
  clear hh C
  go_enter Try.func64, Try.ntmps64
  go_wp2_with fail
  go_loopw [8] (fun i wr => ∃ j : Nat, j ≤ sn ∧ i = .int .i64 j ∧ Hid (fstI p 0 sn = fstI p j (sn - j)) ∧ Cls w wr) (fun i _ => sn - (intOf i).toNat)
  case atStart => exact ⟨0, Nat.zero_le _, rfl, Lib.hid rfl, Cls.of (Below.refl _ _)⟩
  case round =>
    obtain ⟨j, hj, rfl, HE, x, rfl⟩ := hrel
    have xs := x.size
    by_cases hltj : j < sn
    · obtain ⟨b, off, ha, hb2, hc⟩ := H.out.resolve_left (by omega)
      subst ha
      have q0 := hc j hltj
      have hS : Hid (sn - j = (sn - (j + 1)) + 1) := Lib.hid (by omega)
      have C1 := Lib.hid (HC.out x.val x.below j hltj)
      clear hc HC H
      cases hbb : p j
      all_goals
        have HB := Lib.hid hbb
        rw [hbb] at C1
        clear hbb
        generalize f j = tj at q0 C1
        generalize g j = uj at q0 C1
        obtain ⟨q1, q2⟩ := q0
        go_wp2_with (go_at_call 31; ((with_reducible refine (Cls.call C1.out).mono ?_); rintro r _ ⟨rfl, y, rfl⟩))
      · go_roundw
        case rel => exact ⟨j + 1, by omega, by go_num, Lib.hid (by rw [HE.out, hS.out, fstI_go HB.out]), y, rfl⟩
        case measure => simp [intOf]; omega
      · go_ret
        exact ⟨ret_int (by rw [HE.out, hS.out, fstI_stop HB.out]), y, rfl⟩
    · have hz : Hid (sn - j = 0) := Lib.hid (by omega)
      go_wp2_with fail
      go_ret
      exact ⟨ret_int (by rw [HE.out, hz.out]; rfl), x, rfl⟩
set_option maxHeartbeats 4000000 in
set_option maxRecDepth 20000 in
theorem contains_lat (a : Option Addr) (sn sc : Nat) (f g : Nat → Int) (p : Nat → Bool)  (w : World) (hs : FrsA w ⟨a, sn, sc⟩ f g) (C : ∀ (W : World), Below w.heap.size w W → ∀ j, j < sn → Calls Try.prog 31 #[.agg #[.int .i64 (f j), .int .i64 (g j)]] W fun e w' => e = .returned (.bool (p j)) ∧ Cls W w') :
    Calls Try.prog 32 #[.slice a sn sc, .func (.func 31) #[] #[]] w fun e w' => e = .returned (.bool (anyB p sn)) ∧ Cls w w' := by
  have C1 := Lib.hid (index_lat a sn sc f g p  w hs C)
  clear hs C
  unfold anyB
  generalize fstI p 0 sn = n at C1 ⊢
  go_enter Try.func32, Try.ntmps32
  go_wp2_with (go_at_call 64; ((with_reducible refine C1.out.mono ?_); rintro r _ ⟨rfl, y, rfl⟩))
  go_ret
  exact ⟨ret_bool (by simp), y, rfl⟩
set_option maxHeartbeats 2000000 in
set_option maxRecDepth 20000 in
theorem broken_calls (n d : Int) (w : World) : Calls Try.prog 31 #[.agg #[.int .i64 n, .int .i64 d]] w fun e w' => e = .returned (.bool (d != 1)) ∧ Cls w w' := by
  go_enter Try.func31, Try.ntmps31
  go_wp2_with fail
  go_ret
  exact ⟨rfl, Cls.of (by repeat first | with_reducible exact Below.refl _ _ | with_reducible refine Below.setCell ?_ (by first | omega | (simp; done) | (simp; omega)) _ | with_reducible refine Below.alloc ?_ (by first | omega | (simp; done) | (simp; omega)) _ | with_reducible refine Below.drew ?_ | with_reducible refine Ext.on _ ?_ (by first | omega | (simp; done) | (simp; omega)))⟩
/-- Whether a combination shows that no whole numbers are a solution. -/
def laB (y : Sy) (n : Nat) (mn md : Nat → Int) : Bool := (cmE y n mn md == 0) && ((crD y n mn md != 1) && !anyB (fun k => cbD y n mn md k != 1) y.U.len)
set_option maxHeartbeats 8000000 in
set_option maxRecDepth 20000 in
theorem lLattice_calls (y : Sy) (a : Option Addr) (n c : Nat) (mn md : Nat → Int) (w : World) (h : SysA w y) (hx : FrsA w ⟨a, n, c⟩ mn md) (hi : ∀ i, i < n → In64 (mn i) ∧ In64 (md i)) (hn : n ≤ 90) :
    Calls Try.prog 12 #[y.v, .slice a n c] w fun e w' => e = .returned (.bool (laB y n mn md)) ∧ Cls w w' := by
  have C0 := Lib.hid (fun (W : World) (hb : Below w.heap.size w W) => lCombine_calls y a n c mn md W (h.later hb) (hx.later hb) hi hn)
  clear h hx hi
  unfold laB
  by_cases hce : cmE y n mn md = 0
  · have C1 : Hid (∀ W, Below w.heap.size w W → Calls Try.prog 9 #[y.v, .slice a n c] W fun e w' => ∃ (a : Option Addr) (c : Nat), e = .returned (.tuple #[.slice a y.U.len c, .agg #[.int .i64 (crN y n mn md), .int .i64 (crD y n mn md)], .int .i64 0]) ∧ FrsA w' ⟨a, y.U.len, c⟩ (cbN y n mn md) (cbD y n mn md) ∧ Cls W w') := Lib.hid fun W hb => (C0.out W hb).mono fun e w' hh => hh.yes hce
    have C2 : Hid (∀ (W : World) (sa : Option Addr) (sc : Nat), FrsA W ⟨sa, y.U.len, sc⟩ (cbN y n mn md) (cbD y n mn md) → Calls Try.prog 32 #[.slice sa y.U.len sc, .func (.func 31) #[] #[]] W fun e w' => e = .returned (.bool (anyB (fun k => cbD y n mn md k != 1) y.U.len)) ∧ Cls W w') := Lib.hid fun W sa sc hf =>
      contains_lat sa y.U.len sc (cbN y n mn md) (cbD y n mn md) (fun k => cbD y n mn md k != 1) W hf fun V hV j hj => broken_calls _ _ V
    rw [hce]
    unfold Sy.v at *
    clear C0 hce
    generalize cbN y n mn md = fN at *
    generalize crN y n mn md = rN at *
    generalize anyB (fun k => cbD y n mn md k != 1) y.U.len = an at *
    generalize cbD y n mn md = fD at *
    generalize crD y n mn md = rD at *
    generalize y.U.a = ua at *
    generalize y.U.len = un at *
    generalize y.U.cap = uc at *
    generalize y.R.a = ra at *
    generalize y.R.len = rn at *
    generalize y.R.cap = rc at *
    generalize y.B.a = ba at *
    generalize y.B.len = bn at *
    generalize y.B.cap = bc at *
    have CB := Lib.hid (fun W => broken_calls rN rD W)
    by_cases h1 : rD = 1
    · have d1 : (rD != 1) = false := by simp [h1]
      rw [d1] at CB ⊢
      clear C2 h1
      go_enter Try.func12, Try.ntmps12
      go_wp2_with (first | (go_at_call 9; (with_reducible refine Calls.mono (C1.out _ ?_) ?_); (focus (repeat first | with_reducible exact Below.refl _ _ | with_reducible refine Below.setCell ?_ (by first | omega | (simp; done) | (simp; omega)) _ | with_reducible refine Below.alloc ?_ (by first | omega | (simp; done) | (simp; omega)) _ | with_reducible refine Below.drew ?_ | with_reducible refine Ext.on _ ?_ (by first | omega | (simp; done) | (simp; omega)))); rintro e _ ⟨sa, sc, rfl, hf, ⟨x, rfl⟩⟩; have xs := x.size; (try simp at xs); have HF := Lib.hid hf; clear hf) | (go_at_call 31; (with_reducible refine Calls.mono (CB.out _) ?_); rintro e _ ⟨rfl, ⟨x2, rfl⟩⟩; have x2s := x2.size; (try simp at x2s)))
      go_ret
      refine ⟨rfl, Cls.of ?_⟩
      repeat first | with_reducible exact Below.refl _ _ | with_reducible refine Below.setCell ?_ (by first | omega | (simp; done) | (simp; omega)) _ | with_reducible refine Below.alloc ?_ (by first | omega | (simp; done) | (simp; omega)) _ | with_reducible refine Below.drew ?_ | with_reducible refine Ext.on _ ?_ (by first | omega | (simp; done) | (simp; omega))
    · have d1 : (rD != 1) = true := by simpa using h1
      rw [d1] at CB ⊢
      clear h1
      go_enter Try.func12, Try.ntmps12
      go_wp2_with (first | (go_at_call 9; (with_reducible refine Calls.mono (C1.out _ ?_) ?_); (focus (repeat first | with_reducible exact Below.refl _ _ | with_reducible refine Below.setCell ?_ (by first | omega | (simp; done) | (simp; omega)) _ | with_reducible refine Below.alloc ?_ (by first | omega | (simp; done) | (simp; omega)) _ | with_reducible refine Below.drew ?_ | with_reducible refine Ext.on _ ?_ (by first | omega | (simp; done) | (simp; omega)))); rintro e _ ⟨sa, sc, rfl, hf, ⟨x, rfl⟩⟩; have xs := x.size; (try simp at xs); have HF := Lib.hid hf; clear hf) | (go_at_call 31; (with_reducible refine Calls.mono (CB.out _) ?_); rintro e _ ⟨rfl, ⟨x2, rfl⟩⟩; have x2s := x2.size; (try simp at x2s)) | (go_at_call 32; (with_reducible refine Calls.mono (C2.out _ sa sc (HF.out.later (by repeat first | with_reducible exact Below.refl _ _ | with_reducible refine Below.setCell ?_ (by first | omega | (simp; done) | (simp; omega)) _ | with_reducible refine Below.alloc ?_ (by first | omega | (simp; done) | (simp; omega)) _ | with_reducible refine Below.drew ?_ | with_reducible refine Ext.on _ ?_ (by first | omega | (simp; done) | (simp; omega))))) ?_); rintro e _ ⟨rfl, ⟨x3, rfl⟩⟩; have x3s := x3.size; (try simp at x3s)))
      go_ret
      refine ⟨rfl, Cls.of ?_⟩
      repeat first | with_reducible exact Below.refl _ _ | with_reducible refine Below.setCell ?_ (by first | omega | (simp; done) | (simp; omega)) _ | with_reducible refine Below.alloc ?_ (by first | omega | (simp; done) | (simp; omega)) _ | with_reducible refine Below.drew ?_ | with_reducible refine Ext.on _ ?_ (by first | omega | (simp; done) | (simp; omega))
  · have C1 : Hid (∀ W, Below w.heap.size w W → Calls Try.prog 9 #[y.v, .slice a n c] W fun e w' => e = .returned (.tuple #[.slice none 0 0, .agg #[.int .i64 0, .int .i64 0], .int .i64 (cmE y n mn md)]) ∧ Cls W w') := Lib.hid fun W hb => (C0.out W hb).mono fun e w' hh => hh.no hce
    have d0 : (cmE y n mn md == 0) = false := by simpa using hce
    rw [d0]
    unfold Sy.v at *
    clear C0 hce
    generalize cmE y n mn md = ce at *
    generalize y.U.a = ua at *
    generalize y.U.len = un at *
    generalize y.U.cap = uc at *
    generalize y.R.a = ra at *
    generalize y.R.len = rn at *
    generalize y.R.cap = rc at *
    generalize y.B.a = ba at *
    generalize y.B.len = bn at *
    generalize y.B.cap = bc at *
    go_enter Try.func12, Try.ntmps12
    go_wp2_with (go_at_call 9; (with_reducible refine Calls.mono (C1.out _ ?_) ?_); (focus (repeat first | with_reducible exact Below.refl _ _ | with_reducible refine Below.setCell ?_ (by first | omega | (simp; done) | (simp; omega)) _ | with_reducible refine Below.alloc ?_ (by first | omega | (simp; done) | (simp; omega)) _ | with_reducible refine Below.drew ?_ | with_reducible refine Ext.on _ ?_ (by first | omega | (simp; done) | (simp; omega)))); rintro e _ ⟨rfl, ⟨x, rfl⟩⟩; have xs := x.size; (try simp at xs))
    go_ret
    refine ⟨rfl, Cls.of ?_⟩
    repeat first | with_reducible exact Below.refl _ _ | with_reducible refine Below.setCell ?_ (by first | omega | (simp; done) | (simp; omega)) _ | with_reducible refine Below.alloc ?_ (by first | omega | (simp; done) | (simp; omega)) _ | with_reducible refine Below.drew ?_ | with_reducible refine Ext.on _ ?_ (by first | omega | (simp; done) | (simp; omega))
end Go.Proofs.Ythbdkhmgopahbaa
set_option linter.unusedVariables false
namespace Go.Proofs.Ythbdkhmgopahbaa
open Go Go.RowKit Go.Deep
theorem frE_at {N : Int} {D : Nat} : (frOk N D = true → frE N D = 0) ∧ (frOk N D = false → frE N D = 8) := by
  unfold frE
  constructor <;> intro h <;> simp [h]
theorem cmE_of (y : Sy) (n : Nat) (mn md : Nat → Int) : (cmE0 y n mn md ≠ 0 → cmE y n mn md = cmE0 y n mn md) ∧ (cmE0 y n mn md = 0 → cmE y n mn md = if (cmR y n mn md && !anyB (fun k => !cmOk y n mn md k) y.U.len) = true then 0 else 8) := by
  unfold cmE cmE0
  by_cases h1 : vaS y = 0
  · by_cases h2 : n = y.R.len
    · by_cases h3 : anyB (fun i => !vaB (mn i) (md i)) n = true
      · simp [h1, h2.symm, h3]
      · simp only [h1, ← h2, h3]; simp
    · simp [h1, h2]
  · simp [h1]
set_option maxHeartbeats 32000000 in
set_option maxRecDepth 20000 in
theorem rCombine_calls (y : Sy) (a : Option Addr) (n c : Nat) (mn md : Nat → Int) (w : World) (h : SysA w y) (hx : FrsA w ⟨a, n, c⟩ mn md) (hi : ∀ i, i < n → In64 (mn i) ∧ In64 (md i)) (hn : n ≤ 15) :
    Calls Try.prog 10 #[y.v, .slice a n c] w (CmbR y n mn md w) := by
  have hnc := hx.1
  have hcm := hx.2.1
  have um := h.U.2.1
  have ul := h.U.1
  unfold maxLen at hcm um
  simp only at hnc hcm
  have C1 := Lib.hid (fun (W : World) (hb : Below w.heap.size w W) => rcombined_calls y a n c mn md W (h.later hb) (hx.later hb) hi hn)
  obtain ⟨E1, E2⟩ := cmE_of y n mn md
  unfold CmbR
  unfold RCmb at C1
  by_cases h1 : cmE0 y n mn md = 0
  case neg =>
    have VN : cmN y n mn md = 0 ∧ cmD y n mn md = 0 := by
      unfold cmN cmD
      rw [E1 h1, if_neg h1, if_neg h1]
      exact ⟨rfl, rfl⟩
    rw [E1 h1, VN.1, VN.2]
    have d1 : (cmE0 y n mn md != 0) = true := by simpa using h1
    unfold Sy.v at *
    clear h hx hi E1 E2 VN
    generalize cmE0 y n mn md = va at *
    generalize y.U.a = ua at *
    generalize y.U.len = un at *
    generalize y.U.cap = uc at *
    generalize y.R.a = ra at *
    generalize y.R.len = rn at *
    generalize y.R.cap = rc at *
    generalize y.B.a = ba at *
    generalize y.B.len = bn at *
    generalize y.B.cap = bc at *
    go_enter Try.func10, Try.ntmps10
    go_wp2_with (go_at_call 29; (with_reducible refine Calls.mono (C1.out _ ?_) ?_); (focus (repeat first | with_reducible exact Below.refl _ _ | with_reducible refine Below.setCell ?_ (by first | omega | (simp; done) | (simp; omega)) _ | with_reducible refine Below.alloc ?_ (by first | omega | (simp; done) | (simp; omega)) _ | with_reducible refine Below.drew ?_ | with_reducible refine Ext.on _ ?_ (by first | omega | (simp; done) | (simp; omega)))); rintro e _ ⟨s, g, p, q, rfl, hok, ⟨x, rfl⟩⟩; have HOK := Lib.hid hok; clear hok; have xs := x.size; (try simp at xs); obtain ⟨hx1, zf0, zf1, z0, z1⟩ := two_n ((x.below.block (w.heap.size + 1) (by simp)).trans (heap_two1 w _ _)))
    refine ret_ex rfl ⟨.tuple #[.slice none 0 0, .agg #[.int .i64 0, .int .i64 0], .int .i64 va], by simp [results, Try.results10, go_sem, z0, z1, hx1], ⟨⟨none, 0, 0⟩, rfl, fun h => absurd h h1, fun _ => rfl, Cls.of ?_⟩⟩
    repeat first | with_reducible exact Below.refl _ _ | with_reducible refine Below.setCell ?_ (by first | omega | (simp; done) | (simp; omega)) _ | with_reducible refine Below.alloc ?_ (by first | omega | (simp; done) | (simp; omega)) _ | with_reducible refine Below.drew ?_ | with_reducible refine Ext.on _ ?_ (by first | omega | (simp; done) | (simp; omega))
  case pos =>
    have E3 := E2 h1
    have V : vaS y = 0 := by
      by_cases hv : vaS y = 0
      · exact hv
      · exfalso; unfold cmE0 at h1; rw [if_pos hv] at h1; exact hv h1
    have hun := (vaS_zero V).u
    have VN8 : Hid (cmE y n mn md ≠ 0 → cmN y n mn md = 0 ∧ cmD y n mn md = 0) := Lib.hid fun hh => by
      unfold cmN cmD
      rw [if_neg hh, if_neg hh]
      exact ⟨rfl, rfl⟩
    have VN0 : Hid (cmE y n mn md = 0 → cmN y n mn md = frN (totN y.rt mn (fdN md) n) (totD (fdN md) n) ∧ cmD y n mn md = frD (totN y.rt mn (fdN md) n) (totD (fdN md) n)) := Lib.hid fun hh => by
      unfold cmN cmD
      rw [if_pos hh, if_pos hh]
      exact ⟨rfl, rfl⟩
    have F8a : Hid (frOk (totN y.rt mn (fdN md) n) (totD (fdN md) n) = false → cmE y n mn md = 8) := Lib.hid fun hh => by
      rw [E3, show cmR y n mn md = false from hh]; rfl
    have F8b : Hid (∀ k, k < y.U.len → frOk (totN (fun i => y.co i k) mn (fdN md) n) (totD (fdN md) n) = false → cmE y n mn md = 8) := Lib.hid fun k hk hh => by
      have : anyB (fun k => !cmOk y n mn md k) y.U.len = true := anyB_iff.2 ⟨k, hk, by simp only [cmOk, hh]; rfl⟩
      rw [E3, this]; simp
    have F0 : Hid (frOk (totN y.rt mn (fdN md) n) (totD (fdN md) n) = true → (∀ k, k < y.U.len → frOk (totN (fun i => y.co i k) mn (fdN md) n) (totD (fdN md) n) = true) → cmE y n mn md = 0) := Lib.hid fun hr hh => by
      have : anyB (fun k => !cmOk y n mn md k) y.U.len = false := anyB_no.2 fun i hi => by simp only [cmOk, hh i hi]; rfl
      rw [E3, this, show cmR y n mn md = true from hr]; rfl
    obtain ⟨N, hN⟩ : ∃ N : Nat → Int, (fun k => totN (fun i => y.co i k) mn (fdN md) n) = N := ⟨_, rfl⟩
    have hNk : ∀ k, totN (fun i => y.co i k) mn (fdN md) n = N k := fun k => congrFun hN k
    have HRW : Hid ((fun k => frN (totN (fun i => y.co i k) mn (fdN md) n) (totD (fdN md) n)) = (fun k => frN (N k) (totD (fdN md) n)) ∧ (fun k => frD (totN (fun i => y.co i k) mn (fdN md) n) (totD (fdN md) n)) = (fun k => frD (N k) (totD (fdN md) n))) := Lib.hid ⟨by funext k; rw [hNk], by funext k; rw [hNk]⟩
    rw [HRW.out.1, HRW.out.2]
    simp only [hNk] at F8b F0
    rw [hN] at C1
    unfold Sy.v at *
    rw [h1] at C1
    clear h hx hi E1 E2 E3 h1 V hN hNk HRW
    generalize totN y.rt mn (fdN md) n = RN at *
    generalize totD (fdN md) n = D at *
    generalize cmE y n mn md = ce at *
    generalize cmN y n mn md = cn at *
    generalize cmD y n mn md = cd at *
    generalize y.U.a = ua at *
    generalize y.U.len = un at *
    generalize y.U.cap = uc at *
    generalize y.R.a = ra at *
    generalize y.R.len = rn at *
    generalize y.R.cap = rc at *
    generalize y.B.a = ba at *
    generalize y.B.len = bn at *
    generalize y.B.cap = bc at *
    go_enter Try.func10, Try.ntmps10
    go_wp2_with (go_at_call 29; (with_reducible refine Calls.mono (C1.out _ ?_) ?_); (focus (repeat first | with_reducible exact Below.refl _ _ | with_reducible refine Below.setCell ?_ (by first | omega | (simp; done) | (simp; omega)) _ | with_reducible refine Below.alloc ?_ (by first | omega | (simp; done) | (simp; omega)) _ | with_reducible refine Below.drew ?_ | with_reducible refine Ext.on _ ?_ (by first | omega | (simp; done) | (simp; omega)))); rintro e _ ⟨s, g, p, q, rfl, hok, ⟨x, rfl⟩⟩; have HOK := Lib.hid hok; clear hok; have xs := x.size; (try simp at xs); obtain ⟨hx1, zf0, zf1, z0, z1⟩ := two_n ((x.below.block (w.heap.size + 1) (by simp)).trans (heap_two1 w _ _)))
    obtain ⟨hsl, hBA, hg, hp, hq⟩ := HOK.out trivial
    have HBA := Lib.hid hBA
    have HP := Lib.hid hp
    have HQ := Lib.hid hq
    have HG := Lib.hid hg
    have HX0 := Lib.hid ((x.below.block w.heap.size (by simp; omega)).trans (heap_two0 w _ _))
    have HX1 := Lib.hid ((x.below.block (w.heap.size + 1) (by simp)).trans (heap_two1 w _ _))
    have HWx : Hid (Below w.heap.size w x.val) := Lib.hid (by repeat first | with_reducible exact Below.refl _ _ | with_reducible refine Below.setCell ?_ (by first | omega | (simp; done) | (simp; omega)) _ | with_reducible refine Below.alloc ?_ (by first | omega | (simp; done) | (simp; omega)) _ | with_reducible refine Below.drew ?_ | with_reducible refine Ext.on _ ?_ (by first | omega | (simp; done) | (simp; omega)))
    clear hBA hp hq hg HOK C1 z0 z1 zf0 zf1
    go_loopw [10, 11] (fun v i wr => ∃ k : Nat, k ≤ un ∧ i = .int .i64 k ∧ Hid (OutF (x.val.heap.size + 1) (fun k => frN (N k) D) (fun k => frD (N k) D) k v wr) ∧ Hid (∀ i, i < k → frOk (N i) D = true) ∧ Hid (Below (x.val.heap.size + 1) (x.val.alloc (.cells #[.bool g, .slice p.a p.len p.cap, .slice q.a q.len q.cap] 67)) wr)) (fun _ i _ => un - (intOf i).toNat)
    case atStart => exact ⟨0, Nat.zero_le _, rfl, Lib.hid (OutF.nil _ _ _ _), Lib.hid (fun i hi => absurd hi (Nat.not_lt_zero _)), Lib.hid (by repeat first | with_reducible exact Below.refl _ _ | with_reducible refine Below.setCell ?_ (by first | omega | (simp; done) | (simp; omega)) _ | with_reducible refine Below.alloc ?_ (by first | omega | (simp; done) | (simp; omega)) _ | with_reducible refine Below.drew ?_ | with_reducible refine Ext.on _ ?_ (by first | omega | (simp; done) | (simp; omega)))⟩
    case round =>
      obtain ⟨k, hk, rfl, HO, HT, HB⟩ := hrel
      have hbs := HB.out.size
      simp at hbs
      have hb1 := (HB.out.block (w.heap.size + 1) (by omega)).trans ((Below.heap_alloc _ _ _ (by omega)).trans HX1.out)
      obtain ⟨hx1, zf0, zf1, z0, z1⟩ := two_n hb1
      have HB1 := Lib.hid hb1
      have HBx : Hid (Below x.val.heap.size x.val wr) := Lib.hid ((((Below.refl _ _).alloc (Nat.le_refl _) _).trans (HB.out.mono (by omega))))
      have HW : Hid (Below w.heap.size w wr) := Lib.hid (HWx.out.trans (HBx.out.mono (by omega)))
      clear hb1
      by_cases hk2 : k < un
      · obtain ⟨_, _, sk, tk, h3, h4⟩ := HBA.out
        obtain ⟨b, off, ha, hlt, hc⟩ := h4.resolve_left (by omega)
        obtain ⟨q0, q1, q2⟩ := hc k (by omega)
        obtain ⟨n1, n2⟩ := h3 k (by omega)
        have r0 := (HBx.out.cell (p := ⟨b, off + k * 3, none⟩) hlt).trans q0
        have r1 := (HBx.out.cell (p := ⟨b, off + k * 3 + 1, none⟩) hlt).trans q1
        have r2 := (HBx.out.cell (p := ⟨b, off + k * 3 + 2, none⟩) hlt).trans q2
        have hbw : b < wr.heap.size := by omega
        have CFk := Lib.hid (fun (W : World) (hb : Below wr.heap.size wr W) => Fit_calls (N k) D (sk k).a (sk k).len (sk k).cap (tk k).a (tk k).len (tk k).cap W ((n1.later HBx.out).later hb) ((n2.later HBx.out).later hb))
        have hsll := HBA.out.1
        have hslm := HBA.out.2.1
        unfold maxLen at hslm
        obtain ⟨fe1, fe2⟩ := @frE_at (N k) D
        have H8 := Lib.hid (F8b.out k hk2)
        clear h3 h4 hc q0 q1 q2 n1 n2 F8a F8b F0 HBA HP HQ HG
        obtain ⟨sa, sn, sc⟩ := s
        simp only at *
        subst ha hsl
        generalize (sk k) = skk at *
        generalize (tk k) = tkk at *
        unfold frV at CFk
        generalize decide (frI (N k) D < 0) = gk at *
        by_cases hO : frOk (N k) D = true
        · rw [fe1 hO] at CFk
          have HT2 : Hid (∀ i, i < k + 1 → frOk (N i) D = true) := Lib.hid fun i hi => by
            rcases Nat.lt_or_ge i k with h' | h'
            · exact HT.out i h'
            · obtain rfl : i = k := by omega
              exact hO
          have HS : Hid (∀ (v1 : Value) (w1 : World), w1.ownsRow (x.val.heap.size + 1) 34 2 v1 (k + 1) (flatF (fun k => frN (N k) D) (fun k => frD (N k) D) k ++ [.int .i64 (frN (N k) D), .int .i64 (frD (N k) D)]) → OutF (x.val.heap.size + 1) (fun k => frN (N k) D) (fun k => frD (N k) D) (k + 1) v1 w1) := Lib.hid fun v1 w1 hh => hh
          clear hO fe1 fe2 H8 HT
          generalize (fun k => frN (N k) D) = fN at *
          generalize (fun k => frD (N k) D) = fD at *
          generalize frN (N k) D = rN at *
          generalize frD (N k) D = rD at *
          obtain ⟨i0, hi, hz0, hz1, hz2⟩ := info_parts infoFr
          go_wp2_with (first
            | (go_at_call 30; ((with_reducible refine Calls.mono (CFk.out _ ?_) ?_); (focus (repeat first | with_reducible exact Below.refl _ _ | with_reducible refine Below.setCell ?_ (by first | omega | (simp; done) | (simp; omega)) _ | with_reducible refine Below.alloc ?_ (by first | omega | (simp; done) | (simp; omega)) _ | with_reducible refine Below.drew ?_ | with_reducible refine Ext.on _ ?_ (by first | omega | (simp; done) | (simp; omega)))); rintro e _ ⟨rfl, ⟨y1, rfl⟩⟩; have y1s := y1.size; have HO2 := Lib.hid (((HO.out.later y1.below).later ((Below.refl y1.val.heap.size y1.val).alloc (Nat.le_refl _) (.cells #[.int .i64 rN, .int .i64 rD] 34))).later ((Below.refl (y1.val.alloc (.cells #[.int .i64 rN, .int .i64 rD] 34)).heap.size (y1.val.alloc (.cells #[.int .i64 rN, .int .i64 rD] 34))).alloc (Nat.le_refl _) (.cells #[.int .i64 rN, .int .i64 rD] 34))); have HB2 : Hid (Below (x.val.heap.size + 1) (x.val.alloc (.cells #[.bool g, .slice p.a p.len p.cap, .slice q.a q.len q.cap] 67)) y1.val) := Lib.hid (Ext.on y1 HB.out (by omega))))
            | (at_builtin; (refine wpList_append_own_at _ rfl _ _ 23 rfl (x.val.heap.size + 1) 34 i0 (.agg #[.int .i64 0, .int .i64 0]) 2 16 Try.underlying23 hi hz0 hz1 hz2 rfl (by decide) _ k _ rfl HO2.out ⟨y1.val.heap.size + 1, 0, none⟩ 1 1 [.int .i64 rN, .int .i64 rD] rfl rfl (by have qq := cells_new' (y1.val.alloc (.cells #[.int .i64 rN, .int .i64 rD] 34)) [.int .i64 rN, .int .i64 rD] 34; have ee : (y1.val.alloc (.cells #[.int .i64 rN, .int .i64 rD] 34)).heap.size = y1.val.heap.size + 1 := (by simp); rw [ee] at qq; exact qq) (one_f _ _) (by unfold maxLen; omega) (by omega) (by first | (simp; done) | (simp; omega)) ?_; intro v1 w1 hown1 hg1 _ hv1; have HB3 : Hid (Below (x.val.heap.size + 1) (x.val.alloc (.cells #[.bool g, .slice p.a p.len p.cap, .slice q.a q.len q.cap] 67)) w1) := Lib.hid (Below.grown (w := (y1.val.alloc _).alloc _) ((HB2.out.alloc (by omega) _).alloc (by simp; omega) _) hg1 (by first | (simp; done) | (simp; omega)) (fun k hk => OutB.base_le HO2.out hk)); have HO3 := Lib.hid (HS.out _ _ hown1); clear hown1 hg1 hv1)))
          go_roundw
          case rel => exact ⟨k + 1, by omega, by go_num, HO3, HT2, HB3⟩
          case measure => simp [intOf]; omega
        · have hO' : frOk (N k) D = false := by simpa using hO
          rw [fe2 hO'] at CFk
          have HV := Lib.hid (H8.out hO')
          clear hO hO' fe1 fe2 H8 HT HO VN0
          generalize frN (N k) D = rN at *
          generalize frD (N k) D = rD at *
          go_wp2_with (go_at_call 30; (with_reducible refine Calls.mono (CFk.out _ ?_) ?_); (focus (repeat first | with_reducible exact Below.refl _ _ | with_reducible refine Below.setCell ?_ (by first | omega | (simp; done) | (simp; omega)) _ | with_reducible refine Below.alloc ?_ (by first | omega | (simp; done) | (simp; omega)) _ | with_reducible refine Below.drew ?_ | with_reducible refine Ext.on _ ?_ (by first | omega | (simp; done) | (simp; omega)))); rintro e _ ⟨rfl, ⟨y1, rfl⟩⟩; have y1s := y1.size; have HW2 : Hid (Below w.heap.size w y1.val) := Lib.hid (Ext.on y1 HW.out (by omega)); obtain ⟨hy1, zf0, zf1, z0, z1⟩ := two_n ((y1.below.block (w.heap.size + 1) (by omega)).trans HB1.out))
          refine ret_ex rfl ⟨.tuple #[.slice none 0 0, .agg #[.int .i64 0, .int .i64 0], .int .i64 8], by simp [results, Try.results10, go_sem, z0, z1, hy1], ⟨⟨none, 0, 0⟩, by rw [HV.out, (VN8.out (by rw [HV.out]; decide)).1, (VN8.out (by rw [HV.out]; decide)).2], fun h => absurd h (by rw [HV.out]; decide), fun _ => rfl, Cls.of ?_⟩⟩
          exact ((HW2.out.setCell (by simp) _).setCell (by simp) _).alloc (by simp; omega) _
      · obtain rfl : k = un := by omega
        have hb3 := (HB.out.block x.val.heap.size (by omega)).trans (heap_alloc_new _ _)
        obtain ⟨hx3, _, _, _, e0, e1, e2⟩ := three_n hb3
        have CFr := Lib.hid (fun (W : World) (hb : Below wr.heap.size wr W) => Fit_calls RN D p.a p.len p.cap q.a q.len q.cap W ((HP.out.later HBx.out).later hb) ((HQ.out.later HBx.out).later hb))
        rw [← HG.out] at CFr
        obtain ⟨fe1, fe2⟩ := @frE_at RN D
        clear hb3 HBA HP HQ HG F8b
        unfold frV at CFr
        by_cases hO : frOk RN D = true
        · rw [fe1 hO] at CFr
          have HV := Lib.hid (F0.out hO HT.out)
          obtain ⟨so, hvv, hlo, hfr, hbo⟩ := HO.out.frs
          subst hvv
          have HFR := Lib.hid hfr
          have V0 := VN0.out HV.out
          have V1 := Lib.hid V0.1
          have V2 := Lib.hid V0.2
          clear hO fe1 fe2 F8a F0 HT hfr VN8 VN0 HO V0
          generalize frN RN D = rN at *
          generalize frD RN D = rD at *
          go_wp2_with (go_at_call 30; (with_reducible refine Calls.mono (CFr.out _ ?_) ?_); (focus (repeat first | with_reducible exact Below.refl _ _ | with_reducible refine Below.setCell ?_ (by first | omega | (simp; done) | (simp; omega)) _ | with_reducible refine Below.alloc ?_ (by first | omega | (simp; done) | (simp; omega)) _ | with_reducible refine Below.drew ?_ | with_reducible refine Ext.on _ ?_ (by first | omega | (simp; done) | (simp; omega)))); rintro e _ ⟨rfl, ⟨y1, rfl⟩⟩; have y1s := y1.size; have HW2 : Hid (Below w.heap.size w y1.val) := Lib.hid (Ext.on y1 HW.out (by omega)); have hyb := (Below.heap_alloc y1.val (.cells #[.int .i64 rN, .int .i64 rD] 34) _ (by omega)).trans ((y1.below.block (w.heap.size + 1) (by omega)).trans HB1.out); obtain ⟨hy1, zf0, zf1, z0, z1⟩ := two_n hyb; have HYB := Lib.hid hyb; clear hyb)
          have HF2 := Lib.hid (((HFR.out.later y1.below).later ((Below.refl _ _).alloc (Nat.le_refl _) (.cells #[.int .i64 rN, .int .i64 rD] 34))).store2 (T := w.heap.size + 1) (fun b off e => by have := hbo b off e; omega) (.int .i64 rN) (.int .i64 rD))
          have hz := heap_setCell_same _ (w.heap.size + 1) 1 _ _ (.int .i64 rD) (heap_setCell_same (y1.val.alloc (.cells #[.int .i64 rN, .int .i64 rD] 34)) (w.heap.size + 1) 0 _ _ (.int .i64 rN) HYB.out)
          obtain ⟨_, k0, k1⟩ := two_s hz
          have K0 : Hid (((((y1.val.alloc (.cells #[.int .i64 rN, .int .i64 rD] 34)).setCell ⟨w.heap.size + 1, 0, none⟩ (.int .i64 rN)).setCell ⟨w.heap.size + 1, 1, none⟩ (.int .i64 rD)).drew).cell? ⟨w.heap.size + 1, 0, none⟩ = some (.int .i64 rN)) := Lib.hid k0
          have K1 : Hid (((((y1.val.alloc (.cells #[.int .i64 rN, .int .i64 rD] 34)).setCell ⟨w.heap.size + 1, 0, none⟩ (.int .i64 rN)).setCell ⟨w.heap.size + 1, 1, none⟩ (.int .i64 rD)).drew).cell? ⟨w.heap.size + 1, 1, none⟩ = some (.int .i64 rD)) := Lib.hid k1
          clear hz k0 k1 HYB HFR
          go_region
          all_goals
            go_wp2_with fail
            refine ret_ex rfl ⟨.tuple #[.slice so.a so.len so.cap, .agg #[.int .i64 rN, .int .i64 rD], .int .i64 0], by simp [results, Try.results10, go_sem, K0.out, K1.out, hlo], ⟨so, by rw [HV.out, V1.out, V2.out], fun _ => ⟨hlo, HF2.out⟩, fun h => absurd HV.out h, Cls.of ?_⟩⟩
            exact (((HW2.out.alloc (by omega) _).setCell (by simp) _).setCell (by simp) _).drew
        · have hO' : frOk RN D = false := by simpa using hO
          rw [fe2 hO'] at CFr
          have HV := Lib.hid (F8a.out hO')
          clear hO hO' fe1 fe2 HT HO VN0 F0
          generalize frN RN D = rN at *
          generalize frD RN D = rD at *
          go_wp2_with (go_at_call 30; (with_reducible refine Calls.mono (CFr.out _ ?_) ?_); (focus (repeat first | with_reducible exact Below.refl _ _ | with_reducible refine Below.setCell ?_ (by first | omega | (simp; done) | (simp; omega)) _ | with_reducible refine Below.alloc ?_ (by first | omega | (simp; done) | (simp; omega)) _ | with_reducible refine Below.drew ?_ | with_reducible refine Ext.on _ ?_ (by first | omega | (simp; done) | (simp; omega)))); rintro e _ ⟨rfl, ⟨y1, rfl⟩⟩; have y1s := y1.size; have HW2 : Hid (Below w.heap.size w y1.val) := Lib.hid (Ext.on y1 HW.out (by omega)); obtain ⟨hy1, zf0, zf1, z0, z1⟩ := two_n ((y1.below.block (w.heap.size + 1) (by omega)).trans HB1.out))
          refine ret_ex rfl ⟨.tuple #[.slice none 0 0, .agg #[.int .i64 0, .int .i64 0], .int .i64 8], by simp [results, Try.results10, go_sem, z0, z1, hy1], ⟨⟨none, 0, 0⟩, by rw [HV.out, (VN8.out (by rw [HV.out]; decide)).1, (VN8.out (by rw [HV.out]; decide)).2], fun h => absurd h (by rw [HV.out]; decide), fun _ => rfl, Cls.of ?_⟩⟩
          exact ((HW2.out.setCell (by simp) _).setCell (by simp) _).alloc (by simp; omega) _
end Go.Proofs.Ythbdkhmgopahbaa
