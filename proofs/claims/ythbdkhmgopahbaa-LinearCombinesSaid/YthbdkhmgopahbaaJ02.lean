/-
  Slices of unsigned numbers, and what holds them. The reference's numbers: of an absolute value, and compared. The reference's numbers: sums and differences. The reference's numbers: differences.
-/
import Derived.Test.YthbdkhmgopahbaaChecked
import Derived.Test.YthbdkhmgopahbaaJ01
import Derived.ProofKit
import Derived.Deep.Slices
import Derived.Maps.AppendAt
import Derived.Laws.AppendOwnNone
import Derived.OwnWalk
import Derived.Laws.Entries
import Derived.BigQuiet
import Derived.Lib.Hide
import Derived.LoopTactic
import Derived.Lib.SmallJoins
set_option linter.unusedVariables false
namespace Go.Proofs.Ythbdkhmgopahbaa
open Go Go.RowKit Go.Deep
/-- A slice's three parts. -/
structure Sl where
  a : Option Addr
  len : Nat
  cap : Nat
def Sl.v (s : Sl) : Value := .slice s.a s.len s.cap
def Sl.z : Sl := ⟨none, 0, 0⟩
/-- The slice holds these numbers. -/
def UAt (w : World) (s : Sl) (l : List Nat) : Prop :=
  s.len = l.length ∧ s.len ≤ s.cap ∧ s.cap ≤ maxLen ∧ (s.len = 0 ∨ ∃ b off, s.a = some ⟨b, off, none⟩ ∧ b < w.heap.size ∧ ∀ i, i < s.len → w.cell? ⟨b, off + i, none⟩ = some (.int .u64 (l.getD i 0)))
theorem UAt.later {w w' : World} {s : Sl} {l : List Nat} (h : UAt w s l) (hb : Below w.heap.size w w') : UAt w' s l := by
  obtain ⟨h1, h2, h3, h4⟩ := h
  refine ⟨h1, h2, h3, h4.imp id ?_⟩
  rintro ⟨b, off, ha, hlt, hc⟩
  exact ⟨b, off, ha, Nat.lt_of_lt_of_le hlt hb.size, fun i hi => by rw [hb.cell (p := ⟨b, _, none⟩) hlt]; exact hc i hi⟩
theorem UAt.cut {w : World} {a : Option Addr} {n c : Nat} {l : List Nat} (h : UAt w ⟨a, n, c⟩ l) {k : Nat} (hk : k ≤ l.length) : UAt w ⟨a, k, c⟩ (l.take k) := by
  obtain ⟨h1, h2, h3, h4⟩ := h
  simp only at *
  refine ⟨by simp [hk], by show k ≤ c; omega, h3, ?_⟩
  rcases h4 with h4 | ⟨b, off, ha, hlt, hc⟩
  · left; show k = 0; omega
  · right
    refine ⟨b, off, ha, hlt, fun i hi => ?_⟩
    simp only at hi
    have : (l.take k).getD i 0 = l.getD i 0 := by simp [List.getD, hi]
    rw [this]; exact hc i (by show i < n; omega)
theorem UAt.nil {w : World} : UAt w Sl.z [] := ⟨rfl, Nat.le_refl _, Nat.zero_le _, .inl rfl⟩
def flatU (l : List Nat) : List Value := l.map fun n => .int .u64 (n : Nat)
theorem flatU_append (l m : List Nat) : flatU (l ++ m) = flatU l ++ flatU m := by simp [flatU]
theorem flatU_length (l : List Nat) : (flatU l).length = l.length := by simp [flatU]
theorem flatU_one (l : List Nat) : ∀ u ∈ flatU l, u.oneCell' = true := by
  intro u h
  obtain ⟨n, _, rfl⟩ := List.mem_map.1 h
  rfl
theorem add_none (b off j : Nat) : (⟨b, off, none⟩ : Addr).add j = ⟨b, off + j, none⟩ := by unfold Addr.add; split <;> simp_all
theorem cells_new' (w : World) (l : List Value) (t : TypeId) : ∀ j u, l[j]? = some u → (w.alloc (.cells l.toArray t)).cell? ((⟨w.heap.size, 0, none⟩ : Addr).add j) = some u := by
  intro j u h
  rw [add_none, Nat.zero_add, cell_of_row _ _ _ l.toArray t (0, 0) (heap_alloc_new w _)]
  simpa using h
theorem own_later' {w w' : World} {base size n : Nat} {e : TypeId} {v : Value} {xs : List Value} (h : w.ownsRow base e size v n xs) (hb : Below w.heap.size w w') : w'.ownsRow base e size v n xs := by
  refine ⟨h.1, h.2.imp id ?_⟩
  rintro ⟨g, cap, cur, hv, hg, hh, rest⟩
  exact ⟨g, cap, cur, hv, hg, (hb.block g (Array.getElem?_eq_some_iff.1 hh).1).trans hh, rest⟩
theorem infoU : (Try.prog.info? 91).map (fun i => (i.zero, i.size, i.bytes)) = some (some (.int .u64 0), 1, 8) := by kernel_rfl
theorem info_parts {P : Program} {t : TypeId} {z : Value} {k b : Nat} (h : (P.info? t).map (fun i => (i.zero, i.size, i.bytes)) = some (some z, k, b)) : ∃ i, P.info? t = some i ∧ i.zero = some z ∧ i.size = k ∧ i.bytes = b := by
  cases hi : P.info? t with
  | none => simp [hi] at h
  | some i => simp [hi] at h; exact ⟨i, rfl, h.1, h.2.1, h.2.2⟩
/-- A row of numbers that a call made, as a slice. -/
theorem UAt.of_own {w : World} {base : Nat} {v : Value} {l : List Nat} (h : w.ownsRow base 91 1 v l.length (flatU l)) : ∃ s : Sl, v = s.v ∧ UAt w s l ∧ ∀ b off, s.a = some ⟨b, off, none⟩ → base ≤ b := by
  rcases h.2 with ⟨rfl, h0⟩ | ⟨g, cap, cur, rfl, hb, hh, hn, hc, hr, ht⟩
  · exact ⟨Sl.z, rfl, ⟨h0.symm, Nat.le_refl _, Nat.zero_le _, .inl rfl⟩, fun _ _ h => by cases h⟩
  · refine ⟨⟨some ⟨g, 0, none⟩, l.length, cap⟩, rfl, ⟨rfl, hn, hc, .inr ⟨g, 0, rfl, (Array.getElem?_eq_some_iff.1 hh).1, fun i hi => ?_⟩⟩, fun b off hb2 => by simp only [Option.some.injEq, Addr.mk.injEq] at hb2; omega⟩
    have hi2 : i < l.length := hi
    have hcell := World.ownsRow.cells h (g := g) rfl
    have c0 := hcell i (.int .u64 (l.getD i 0)) (by simp [flatU, List.getD, hi2])
    rw [add_none] at c0
    exact c0
/-- What a literal holds. -/
theorem UAt.lit {w : World} {g : Nat} {l : List Nat} {cur : Array Value} {t : TypeId} {sp : Nat × Nat} (hh : w.heap[g]? = some (.cells cur t sp)) (hc : cur.toList = flatU l) (hm : l.length ≤ maxLen) : UAt w ⟨some ⟨g, 0, none⟩, l.length, l.length⟩ l := by
  refine ⟨rfl, Nat.le_refl _, hm, .inr ⟨g, 0, rfl, (Array.getElem?_eq_some_iff.1 hh).1, fun i hi => ?_⟩⟩
  have hi2 : i < l.length := hi
  rw [cell_of_row _ _ _ cur t sp hh, Nat.zero_add, ← Array.getElem?_toList, hc]
  simp [flatU, List.getD, hi2]
/-- A number of the reference: the digits of n. -/
def NumAt (w : World) (s : Sl) (n : Nat) : Prop := UAt w s (digs n)
theorem NumAt.later {w w' : World} {s : Sl} {n : Nat} (h : NumAt w s n) (hb : Below w.heap.size w w') : NumAt w' s n := UAt.later h hb
theorem trimmed {w : World} {a : Option Addr} {n c : Nat} {l : List Nat} (h : UAt w ⟨a, n, c⟩ l) (hd : Dg l) : NumAt w ⟨a, (digs (vl l)).length, c⟩ (vl l) := by
  have := h.cut (digs_len_vl hd)
  rwa [take_digs hd] at this
theorem UAt.new (w : World) (l : List Nat) (arr : Array Value) (t : TypeId) (n : Nat) (hn : n = l.length) (h : arr.toList = flatU l) (hm : l.length ≤ 2 ^ 40) : UAt (w.alloc (.cells arr t)) ⟨some ⟨w.heap.size, 0, none⟩, n, n⟩ l := by
  subst hn
  exact UAt.lit (heap_alloc_new w _) h (by unfold maxLen; omega)
def slLen : Value → Nat
  | .slice _ n _ => n
  | _ => 0
set_option maxHeartbeats 2000000 in
theorem trim_calls (a : Option Addr) (n c : Nat) (l : List Nat) (w : World) (h : UAt w ⟨a, n, c⟩ l) (hd : Dg l) :
    Calls Try.prog 99 #[.slice a n c] w fun e w' => e = .returned (.slice a (digs (vl l)).length c) ∧ w = w' := by
  have hlen : n = l.length := h.1
  have hle : n ≤ c := h.2.1
  have hmax : c ≤ maxLen := h.2.2.1
  unfold maxLen at hmax
  have H := Lib.hid h.2.2.2
  have HD := Lib.hid hd
  have HL := Lib.hid hlen
  clear h hd hlen
  go_enter Try.func99, Try.ntmps99
  go_wp2_with fail
  go_loop [0] (fun v => ∃ k : Nat, k ≤ n ∧ v = .slice a k c ∧ Hid (vl (l.take k) = vl l)) (fun v => slLen v)
  case atStart => exact ⟨n, Nat.le_refl _, rfl, Lib.hid (vl_take_all _ _ (by rw [HL.out]; exact Nat.le_refl _))⟩
  case round =>
    obtain ⟨k, hk, rfl, hv⟩ := hrel
    by_cases h0 : 0 < k
    · obtain ⟨b, off, ea, hb, hcell⟩ := H.out.resolve_left (by show ¬ n = 0; omega)
      have ea' : a = some ⟨b, off, none⟩ := ea
      subst ea'
      clear ea
      have q := hcell (k - 1) (by show k - 1 < n; omega)
      have HE : Hid (l.getD (k - 1) 0 ≠ 0 → k = (digs (vl l)).length) := Lib.hid (fun hz => by
        have := digs_take HD.out (k := k) (by rw [← HL.out]; exact hk) hv.out (.inr hz)
        rw [← this, List.length_take, ← HL.out, Nat.min_eq_left hk])
      have HS : Hid (l.getD (k - 1) 0 = 0 → vl (l.take (k - 1)) = vl l) := Lib.hid (fun hz => trim_step hv.out h0 hz)
      clear hcell
      generalize l.getD (k - 1) 0 = x at *
      have e1 : ((k : Int) - 1).toNat = k - 1 := by omega
      by_cases hx : x = 0
      · subst hx
        go_wp2_with fail
        go_round
        case rel => exact ⟨k - 1, by omega, by first | rfl | simp, Lib.hid (HS.out rfl)⟩
        case measure => simp [slLen]; omega
      · have d1 : ((x : Int) == 0) = false := by simp; omega
        have HX := Lib.hid hx
        clear hx
        go_wp2_with fail
        go_ret
        exact ⟨by rw [← HE.out HX.out]; rfl, rfl⟩
    · obtain rfl : k = 0 := by omega
      go_wp2_with fail
      go_ret
      refine ⟨?_, rfl⟩
      have : vl l = 0 := by rw [← hv.out]; simp [vl]
      rw [this, digs_zero]; rfl
end Go.Proofs.Ythbdkhmgopahbaa
set_option linter.unusedVariables false
namespace Go.Proofs.Ythbdkhmgopahbaa
open Go Go.RowKit Go.Deep
def cmpN (a b : Nat) : Int := if a < b then -1 else if b < a then 1 else 0
theorem of_digits (m : Nat) (h : m < 18446744073709551616) : vl [m % 1000000000, m / 1000000000 % 1000000000, m / 1000000000 / 1000000000] = m ∧ Dg [m % 1000000000, m / 1000000000 % 1000000000, m / 1000000000 / 1000000000] := by
  constructor
  · simp only [vl]; omega
  · intro d hd
    simp at hd
    rcases hd with rfl | rfl | rfl <;> omega
set_option maxHeartbeats 2000000 in
theorem of_calls (n : Int) (w : World) (h0 : -9223372036854775808 ≤ n) (h1 : n ≤ 9223372036854775807) :
    Calls Try.prog 67 #[.int .i64 n] w fun e w' => ∃ s : Sl, e = .returned (.slice s.a s.len s.cap) ∧ NumAt w' s n.natAbs ∧ Cls w w' := by
  obtain ⟨m, hm⟩ : ∃ m : Nat, m = n.natAbs := ⟨_, rfl⟩
  have hm1 : m < 18446744073709551616 := by omega
  obtain ⟨hv, hdg⟩ := of_digits m hm1
  have C1 : Hid (UAt (w.alloc (.cells #[.int .u64 ((m : Int) % 1000000000), .int .u64 ((m : Int) / 1000000000 % 1000000000), .int .u64 ((m : Int) / 1000000000 / 1000000000)] 91)) ⟨some ⟨w.heap.size, 0, none⟩, 3, 3⟩ [m % 1000000000, m / 1000000000 % 1000000000, m / 1000000000 / 1000000000]) := Lib.hid (UAt.new w _ _ _ 3 rfl (by simp [flatU]) (by simp))
  have C2 := Lib.hid (trimmed C1.out hdg)
  have C3 := Lib.hid (trim_calls _ _ _ _ _ C1.out hdg)
  rw [hv] at C2 C3
  have HM := Lib.hid hm
  clear hv hdg C1
  by_cases hn : n < 0
  · have e1 : IntKind.u64.wrap n = 18446744073709551616 - (m : Int) := by rw [IntKind.wrap_u64]; omega
    have e2 : IntKind.u64.wrap (-(18446744073709551616 - (m : Int))) = (m : Int) := by rw [IntKind.wrap_u64]; omega
    clear hm
    go_enter Try.func67, Try.ntmps67
    go_wp2_with (go_at_call 99; (with_reducible refine C3.out.mono ?_); rintro e _ ⟨rfl, rfl⟩)
    go_ret
    exact ⟨⟨_, _, _⟩, rfl, by rw [← HM.out]; exact C2.out, Cls.of ((Below.refl _ _).alloc (Nat.le_refl _) _)⟩
  · have e1 : IntKind.u64.wrap n = (m : Int) := by rw [IntKind.wrap_u64]; omega
    clear hm
    go_enter Try.func67, Try.ntmps67
    go_wp2_with (go_at_call 99; (with_reducible refine C3.out.mono ?_); rintro e _ ⟨rfl, rfl⟩)
    go_ret
    exact ⟨⟨_, _, _⟩, rfl, by rw [← HM.out]; exact C2.out, Cls.of ((Below.refl _ _).alloc (Nat.le_refl _) _)⟩
theorem cmpN_len {a b : Nat} (h : (digs a).length < (digs b).length) : cmpN a b = -1 := by have := lt_of_len_lt h; simp [cmpN, this]
theorem cmpN_len' {a b : Nat} (h : (digs b).length < (digs a).length) : cmpN a b = 1 := by have := lt_of_len_lt h; unfold cmpN; rw [if_neg (by omega), if_pos this]
theorem cmpN_lt {a b : Nat} (h : a < b) : cmpN a b = -1 := by simp [cmpN, h]
theorem cmpN_gt {a b : Nat} (h : b < a) : cmpN a b = 1 := by unfold cmpN; rw [if_neg (by omega), if_pos h]
theorem cmpN_digs {a b : Nat} (h : digs a = digs b) : cmpN a b = 0 := by
  have : a = b := by rw [← vl_digs a, h, vl_digs]
  simp [cmpN, this]
set_option maxHeartbeats 4000000 in
theorem compare_calls (a : Option Addr) (n c : Nat) (a' : Option Addr) (n' c' : Nat) (x y : Nat) (w : World) (h : NumAt w ⟨a, n, c⟩ x) (h' : NumAt w ⟨a', n', c'⟩ y) :
    Calls Try.prog 71 #[.slice a n c, .slice a' n' c'] w fun e w' => e = .returned (.int .i64 (cmpN x y)) ∧ Cls w w' := by
  have hle : n ≤ c := h.2.1
  have hmax : c ≤ maxLen := h.2.2.1
  have hle' : n' ≤ c' := h'.2.1
  have hmax' : c' ≤ maxLen := h'.2.2.1
  unfold maxLen at hmax hmax'
  have HL : Hid (n = (digs x).length) := Lib.hid h.1
  have HL' : Hid (n' = (digs y).length) := Lib.hid h'.1
  have H := Lib.hid h.2.2.2
  have H' := Lib.hid h'.2.2.2
  clear h h'
  by_cases hnn : n = n'
  · subst hnn
    go_enter Try.func71, Try.ntmps71
    go_wp2_with fail
    go_loopw [5] (fun i wr => ∃ k : Nat, k ≤ n ∧ i = .int .i64 ((k : Int) - 1) ∧ Hid ((digs x).drop k = (digs y).drop k) ∧ Cls w wr) (fun i _ => (intOf i + 1).toNat)
    case atStart => exact ⟨n, Nat.le_refl _, rfl, Lib.hid (by rw [List.drop_eq_nil_of_le (by rw [← HL.out]; exact Nat.le_refl _), List.drop_eq_nil_of_le (by rw [← HL'.out]; exact Nat.le_refl _)]), Cls.of (Below.refl _ _)⟩
    case round =>
      obtain ⟨k, hk, rfl, hd, xw, rfl⟩ := hrel
      by_cases h0 : 0 < k
      · obtain ⟨j, rfl⟩ : ∃ j, k = j + 1 := ⟨k - 1, by omega⟩
        obtain ⟨b, off, ea, hb, hcell⟩ := H.out.resolve_left (by show ¬ n = 0; omega)
        obtain ⟨b', off', ea', hb', hcell'⟩ := H'.out.resolve_left (by show ¬ n = 0; omega)
        have ea1 : a = some ⟨b, off, none⟩ := ea
        have ea2 : a' = some ⟨b', off', none⟩ := ea'
        subst ea1 ea2
        clear ea ea'
        have q := hcell j (by show j < n; omega)
        have q' := hcell' j (by show j < n; omega)
        have G1 : Hid ((digs x).getD j 0 < (digs y).getD j 0 → cmpN x y = -1) := Lib.hid fun hlt => cmpN_lt (by have := lt_of_digit (dg_digs x) (by rw [← HL.out, ← HL'.out]) (by rw [← HL.out]; omega) hd.out hlt; rwa [vl_digs, vl_digs] at this)
        have G2 : Hid ((digs y).getD j 0 < (digs x).getD j 0 → cmpN x y = 1) := Lib.hid fun hlt => cmpN_gt (by have := lt_of_digit (dg_digs y) (by rw [← HL.out, ← HL'.out]) (by rw [← HL'.out]; omega) hd.out.symm hlt; rwa [vl_digs, vl_digs] at this)
        have G3 : Hid ((digs x).getD j 0 = (digs y).getD j 0 → (digs x).drop j = (digs y).drop j) := Lib.hid fun he => drop_step (by rw [← HL.out]; omega) (by rw [← HL.out, ← HL'.out]) hd.out he
        clear hcell hcell' hd
        generalize (digs x).getD j 0 = u at *
        generalize (digs y).getD j 0 = v at *
        have e0 : ((j + 1 : Nat) : Int) - 1 = (j : Int) := by omega
        rw [e0]
        clear e0
        have hbx : b < xw.val.heap.size := Nat.lt_of_lt_of_le hb xw.size
        have hbx' : b' < xw.val.heap.size := Nat.lt_of_lt_of_le hb' xw.size
        rcases Nat.lt_trichotomy u v with hlt | rfl | hlt
        · have GG := Lib.hid (G1.out hlt)
          have d1 : decide (u < v) = true := decide_eq_true hlt
          clear G1 G2 G3 hlt
          go_wp2_with fail
          refine wp_region_on (by kernel_rfl) (by kernel_rfl) ?_
          repeat (go_big_quiet_step (fail))
          refine wpQuiet_nil ?_
          rintro _ ⟨y, rfl⟩
          go_wp2_with fail
          go_ret
          exact ⟨ret_int GG.out.symm, y, rfl⟩
        · have GG := Lib.hid (G3.out rfl)
          have d1 : decide (u < u) = false := by simp
          clear G1 G2 G3
          go_wp2_with fail
          refine wp_region_on (by kernel_rfl) (by kernel_rfl) ?_
          repeat (go_big_quiet_step (fail))
          refine wpQuiet_nil ?_
          rintro _ ⟨y, rfl⟩
          go_wp2_with fail
          refine wp_region_on (by kernel_rfl) (by kernel_rfl) ?_
          repeat (go_big_quiet_step (fail))
          refine wpQuiet_nil ?_
          rintro _ ⟨z, rfl⟩
          go_wp2_with fail
          go_roundw
          case rel => exact ⟨j, by omega, rfl, GG, z, rfl⟩
          case measure => first | (simp [intOf]; done) | (simp [intOf]; omega)
        · have GG := Lib.hid (G2.out hlt)
          have d1 : decide (u < v) = false := decide_eq_false (by omega)
          have d2 : decide (v < u) = true := decide_eq_true hlt
          clear G1 G2 G3 hlt
          go_wp2_with fail
          refine wp_region_on (by kernel_rfl) (by kernel_rfl) ?_
          repeat (go_big_quiet_step (fail))
          refine wpQuiet_nil ?_
          rintro _ ⟨y, rfl⟩
          go_wp2_with fail
          refine wp_region_on (by kernel_rfl) (by kernel_rfl) ?_
          repeat (go_big_quiet_step (fail))
          refine wpQuiet_nil ?_
          rintro _ ⟨z, rfl⟩
          go_wp2_with fail
          go_ret
          exact ⟨ret_int GG.out.symm, z, rfl⟩
      · obtain rfl : k = 0 := by omega
        go_wp2_with fail
        go_ret
        exact ⟨ret_int (cmpN_digs (by simpa using hd.out)).symm, xw, rfl⟩
  · have b5 : ((n : Int) != (n' : Int)) = true := by simp; omega
    by_cases hlt : n < n'
    · have HR := Lib.hid (cmpN_len (a := x) (b := y) (by rw [← HL.out, ← HL'.out]; exact hlt))
      have d1 : decide (n < n') = true := by simpa using hlt
      go_enter Try.func71, Try.ntmps71
      go_wp2_with fail
      go_ret
      exact ⟨ret_int HR.out.symm, Cls.of (Below.refl _ _)⟩
    · have HR := Lib.hid (cmpN_len' (a := x) (b := y) (by rw [← HL.out, ← HL'.out]; omega))
      have d1 : decide (n < n') = false := by simpa using hlt
      go_enter Try.func71, Try.ntmps71
      go_wp2_with fail
      go_ret
      exact ⟨ret_int HR.out.symm, Cls.of (Below.refl _ _)⟩
end Go.Proofs.Ythbdkhmgopahbaa
set_option linter.unusedVariables false
namespace Go.Proofs.Ythbdkhmgopahbaa
open Go Go.RowKit Go.Deep
theorem one_u (n : Int) : ∀ u ∈ [Value.int .u64 n], u.oneCell' = true := by
  intro u hu; simp at hu; subst hu; rfl
theorem getD_end {l : List Nat} {n k : Nat} (h : n = l.length) (hk : ¬ k < n) : l.getD k 0 = 0 := by simp [List.getD, List.getElem?_eq_none (show l.length ≤ k by omega)]
theorem u64_id {n : Nat} (h : n < 18446744073709551616) : IntKind.u64.wrap (n : Int) = (n : Int) := by rw [IntKind.wrap_u64]; omega
set_option maxHeartbeats 4000000 in
theorem plus_calls (a : Option Addr) (n c : Nat) (a' : Option Addr) (n' c' : Nat) (x y : Nat) (w : World) (h : NumAt w ⟨a, n, c⟩ x) (h' : NumAt w ⟨a', n', c'⟩ y) (hn : n ≤ 1000) (hn' : n' ≤ 1000) :
    Calls Try.prog 70 #[.slice a n c, .slice a' n' c'] w fun e w' => ∃ s : Sl, e = .returned (.slice s.a s.len s.cap) ∧ NumAt w' s (x + y) ∧ (∀ b off, s.a = some ⟨b, off, none⟩ → w.heap.size ≤ b) ∧ Cls w w' := by
  have hle : n ≤ c := h.2.1
  have hmax : c ≤ maxLen := h.2.2.1
  have hle' : n' ≤ c' := h'.2.1
  have hmax' : c' ≤ maxLen := h'.2.2.1
  unfold maxLen at hmax hmax'
  have HL : Hid (n = (digs x).length) := Lib.hid h.1
  have HL' : Hid (n' = (digs y).length) := Lib.hid h'.1
  have H := Lib.hid h.2.2.2
  have H' := Lib.hid h'.2.2.2
  clear h h'
  obtain ⟨i0, hi, hz0, hz1, hz2⟩ := info_parts infoU
  go_enter Try.func70, Try.ntmps70
  go_wp2_with fail
  go_loopw [5, 6, 7] (fun v s i wr => ∃ k : Nat, k ≤ 1000 ∧ (k ≤ n ∨ k ≤ n') ∧ i = .int .i64 k ∧ s = .int .u64 (plC (digs x) (digs y) k) ∧ Hid (wr.ownsRow w.heap.size 91 1 v k (flatU (plL (digs x) (digs y) k))) ∧ Hid (Below w.heap.size w wr)) (fun _ _ i _ => 1000 - (intOf i).toNat)
  case atStart => exact ⟨0, by omega, .inl (by omega), rfl, rfl, Lib.hid (World.ownsRow_nil _ _ _ 1), Lib.hid (Below.refl _ _)⟩
  case round =>
    obtain ⟨k, hk, hkn, rfl, rfl, hown, hbel⟩ := hrel
    have hcb := plC_le (dg_digs x) (dg_digs y) k
    have hxb := (dg_digs x).getD k
    have hyb := (dg_digs y).getD k
    have ES : Hid (plC (digs x) (digs y) (k + 1) = (plC (digs x) (digs y) k + (digs x).getD k 0 + (digs y).getD k 0) / 1000000000) := Lib.hid rfl
    have EL : Hid (flatU (plL (digs x) (digs y) (k + 1)) = flatU (plL (digs x) (digs y) k) ++ [.int .u64 (((plC (digs x) (digs y) k : Nat) + ((digs x).getD k 0 : Nat) + ((digs y).getD k 0 : Nat) : Int) % 1000000000)]) := Lib.hid (by rw [plL_succ, flatU_append]; simp [flatU, plD])
    have X0 : Hid (¬ k < n → (digs x).getD k 0 = 0) := Lib.hid (getD_end HL.out)
    have Y0 : Hid (¬ k < n' → (digs y).getD k 0 = 0) := Lib.hid (getD_end HL'.out)
    have CX : Hid (k < n → ∃ b off, a = some ⟨b, off, none⟩ ∧ b < w.heap.size ∧ w.cell? ⟨b, off + k, none⟩ = some (.int .u64 ((digs x).getD k 0))) := Lib.hid fun hlt => by
      obtain ⟨b, off, ea, hb, hc⟩ := H.out.resolve_left (by show ¬ n = 0; omega)
      exact ⟨b, off, ea, hb, hc k hlt⟩
    have CY : Hid (k < n' → ∃ b off, a' = some ⟨b, off, none⟩ ∧ b < w.heap.size ∧ w.cell? ⟨b, off + k, none⟩ = some (.int .u64 ((digs y).getD k 0))) := Lib.hid fun hlt => by
      obtain ⟨b, off, ea, hb, hc⟩ := H'.out.resolve_left (by show ¬ n' = 0; omega)
      exact ⟨b, off, ea, hb, hc k hlt⟩
    obtain ⟨hcell, hfroz⟩ : (∀ b o, b < w.heap.size → wr.cell? ⟨b, o, none⟩ = w.cell? ⟨b, o, none⟩) ∧ True := ⟨fun b o h => hbel.out.cell (p := ⟨b, o, none⟩) h, trivial⟩
    have hsz := hbel.out.size
    by_cases hlt : k < n <;> by_cases hlt' : k < n'
    · obtain ⟨b, off, ea, hb, q⟩ := CX.out hlt
      subst ea
      have r := (hcell b (off + k) hb).trans q
      have hb1 : b < wr.heap.size := by omega
      obtain ⟨b', off', ea', hb', q'⟩ := CY.out hlt'
      subst ea'
      have r' := (hcell b' (off' + k) hb').trans q'
      have hb1' : b' < wr.heap.size := by omega
      clear CX CY X0 Y0 hcell H H' q q'
      generalize (digs x).getD k 0 = p at *
      generalize (digs y).getD k 0 = p' at *
      generalize plC (digs x) (digs y) k = ca at *
      go_wp2_with (first | (at_builtin; refine wpList_append_own_at _ rfl _ _ 65 rfl w.heap.size 91 i0 (.int .u64 0) 1 8 Try.underlying65 hi hz0 hz1 hz2 rfl (by decide) _ k _ rfl (own_later' hown.out (by repeat first | with_reducible exact Below.refl _ _ | with_reducible refine Below.setCell ?_ (by first | omega | (simp; done) | (simp; omega)) _ | with_reducible refine Below.alloc ?_ (by first | omega | (simp; done) | (simp; omega)) _ | with_reducible refine Below.drew ?_ | with_reducible refine Ext.on _ ?_ (by first | omega | (simp; done) | (simp; omega)))) ⟨wr.heap.size, 0, none⟩ 1 1 [.int .u64 _] rfl rfl (cells_new' _ _ _) (one_u _) (by unfold maxLen; omega) (by omega) (by first | (simp; done) | (simp; omega)) ?_; intro v1 w1 hown1 hg1 _ _; have HB1 : Hid (Below w.heap.size w w1) := Lib.hid (Below.grown (w := wr.alloc _) (hbel.out.alloc (by omega) _) hg1 (by first | (simp; done) | (simp; omega)) (fun k hk => (hown.out.lt k hk).1)); have HO1 := Lib.hid hown1; clear hown1 hg1))
      go_roundw
      case rel => exact ⟨k + 1, by omega, by omega, by go_num, by rw [ES.out]; first | rfl | (congr 1; omega), Lib.hid (by rw [EL.out]; exact HO1.out), HB1⟩
      case measure => first | (simp [intOf]; done) | (simp [intOf]; omega)
    · obtain ⟨b, off, ea, hb, q⟩ := CX.out hlt
      subst ea
      have r := (hcell b (off + k) hb).trans q
      have hb1 : b < wr.heap.size := by omega
      rw [Y0.out hlt'] at EL ES hyb
      rw [Int.natCast_zero, Int.add_zero] at EL
      rw [Nat.add_zero] at ES
      clear CX CY X0 Y0 hcell H H' q
      generalize (digs x).getD k 0 = p at *
      generalize plC (digs x) (digs y) k = ca at *
      go_wp2_with (first | (at_builtin; refine wpList_append_own_at _ rfl _ _ 65 rfl w.heap.size 91 i0 (.int .u64 0) 1 8 Try.underlying65 hi hz0 hz1 hz2 rfl (by decide) _ k _ rfl (own_later' hown.out (by repeat first | with_reducible exact Below.refl _ _ | with_reducible refine Below.setCell ?_ (by first | omega | (simp; done) | (simp; omega)) _ | with_reducible refine Below.alloc ?_ (by first | omega | (simp; done) | (simp; omega)) _ | with_reducible refine Below.drew ?_ | with_reducible refine Ext.on _ ?_ (by first | omega | (simp; done) | (simp; omega)))) ⟨wr.heap.size, 0, none⟩ 1 1 [.int .u64 _] rfl rfl (cells_new' _ _ _) (one_u _) (by unfold maxLen; omega) (by omega) (by first | (simp; done) | (simp; omega)) ?_; intro v1 w1 hown1 hg1 _ _; have HB1 : Hid (Below w.heap.size w w1) := Lib.hid (Below.grown (w := wr.alloc _) (hbel.out.alloc (by omega) _) hg1 (by first | (simp; done) | (simp; omega)) (fun k hk => (hown.out.lt k hk).1)); have HO1 := Lib.hid hown1; clear hown1 hg1))
      go_roundw
      case rel => exact ⟨k + 1, by omega, by omega, by go_num, by rw [ES.out]; first | rfl | (congr 1; omega), Lib.hid (by rw [EL.out]; exact HO1.out), HB1⟩
      case measure => first | (simp [intOf]; done) | (simp [intOf]; omega)
    · obtain ⟨b', off', ea', hb', q'⟩ := CY.out hlt'
      subst ea'
      have r' := (hcell b' (off' + k) hb').trans q'
      have hb1' : b' < wr.heap.size := by omega
      rw [X0.out hlt] at EL ES hxb
      rw [Int.natCast_zero, Int.add_zero] at EL
      rw [Nat.add_zero] at ES
      clear CX CY X0 Y0 hcell H H' q'
      generalize (digs y).getD k 0 = p' at *
      generalize plC (digs x) (digs y) k = ca at *
      go_wp2_with (first | (at_builtin; refine wpList_append_own_at _ rfl _ _ 65 rfl w.heap.size 91 i0 (.int .u64 0) 1 8 Try.underlying65 hi hz0 hz1 hz2 rfl (by decide) _ k _ rfl (own_later' hown.out (by repeat first | with_reducible exact Below.refl _ _ | with_reducible refine Below.setCell ?_ (by first | omega | (simp; done) | (simp; omega)) _ | with_reducible refine Below.alloc ?_ (by first | omega | (simp; done) | (simp; omega)) _ | with_reducible refine Below.drew ?_ | with_reducible refine Ext.on _ ?_ (by first | omega | (simp; done) | (simp; omega)))) ⟨wr.heap.size, 0, none⟩ 1 1 [.int .u64 _] rfl rfl (cells_new' _ _ _) (one_u _) (by unfold maxLen; omega) (by omega) (by first | (simp; done) | (simp; omega)) ?_; intro v1 w1 hown1 hg1 _ _; have HB1 : Hid (Below w.heap.size w w1) := Lib.hid (Below.grown (w := wr.alloc _) (hbel.out.alloc (by omega) _) hg1 (by first | (simp; done) | (simp; omega)) (fun k hk => (hown.out.lt k hk).1)); have HO1 := Lib.hid hown1; clear hown1 hg1))
      go_roundw
      case rel => exact ⟨k + 1, by omega, by omega, by go_num, by rw [ES.out]; first | rfl | (congr 1; omega), Lib.hid (by rw [EL.out]; exact HO1.out), HB1⟩
      case measure => first | (simp [intOf]; done) | (simp [intOf]; omega)
    · have HP := Lib.hid (plus_end (a := x) (b := y) (n := k) (by rw [← HL.out]; omega) (by rw [← HL'.out]; omega))
      have HD : Hid (Dg (plL (digs x) (digs y) k ++ [plC (digs x) (digs y) k])) := Lib.hid (by
        intro d hd
        rcases List.mem_append.1 hd with hd | hd
        · exact plL_dg _ _ _ d hd
        · simp at hd; omega)
      have HLN : Hid ((plL (digs x) (digs y) k ++ [plC (digs x) (digs y) k]).length = k + 1) := Lib.hid (by simp [plL_length])
      have EF : Hid (flatU (plL (digs x) (digs y) k ++ [plC (digs x) (digs y) k]) = flatU (plL (digs x) (digs y) k) ++ [.int .u64 ((plC (digs x) (digs y) k : Nat) : Int)]) := Lib.hid (by rw [flatU_append]; rfl)
      clear CX CY X0 Y0 hcell H H' ES EL hxb hyb
      generalize plL (digs x) (digs y) k ++ [plC (digs x) (digs y) k] = L at *
      generalize plC (digs x) (digs y) k = ca at *
      generalize flatU (plL (digs x) (digs y) k) = F at *
      have tok1 : True := trivial
      go_wp2_with (first | (at_builtin; refine wpList_append_own_at _ rfl _ _ 65 rfl w.heap.size 91 i0 (.int .u64 0) 1 8 Try.underlying65 hi hz0 hz1 hz2 rfl (by decide) _ k _ rfl (own_later' hown.out (by repeat first | with_reducible exact Below.refl _ _ | with_reducible refine Below.setCell ?_ (by first | omega | (simp; done) | (simp; omega)) _ | with_reducible refine Below.alloc ?_ (by first | omega | (simp; done) | (simp; omega)) _ | with_reducible refine Below.drew ?_ | with_reducible refine Ext.on _ ?_ (by first | omega | (simp; done) | (simp; omega)))) ⟨wr.heap.size, 0, none⟩ 1 1 [.int .u64 _] rfl rfl (cells_new' _ _ _) (one_u _) (by unfold maxLen; omega) (by omega) (by first | (simp; done) | (simp; omega)) ?_; intro v1 w1 hown1 hg1 _ _; have HB1 : Hid (Below w.heap.size w w1) := Lib.hid (Below.grown (w := wr.alloc _) (hbel.out.alloc (by omega) _) hg1 (by first | (simp; done) | (simp; omega)) (fun k hk => (hown.out.lt k hk).1)); have HO1 := Lib.hid hown1; clear hown1 hg1; obtain ⟨⟨a1, n1, c1⟩, hv1, hat, hfr⟩ := UAt.of_own (l := L) (by rw [EF.out, HLN.out]; exact HO1.out); simp only [Sl.v] at hv1; subst hv1; have T1 := Lib.hid (trim_calls a1 n1 c1 L w1 hat HD.out); have T2 := Lib.hid (trimmed hat HD.out); rw [HP.out] at T1 T2; have HFR := Lib.hid hfr; clear hat hfr) | (go_at_call 99; (with_reducible refine T1.out.mono ?_); rintro e _ ⟨rfl, rfl⟩))
      go_ret
      exact ⟨⟨_, _, _⟩, rfl, T2.out, HFR.out, Cls.of HB1.out⟩
end Go.Proofs.Ythbdkhmgopahbaa
set_option linter.unusedVariables false
namespace Go.Proofs.Ythbdkhmgopahbaa
open Go Go.RowKit Go.Deep
set_option maxHeartbeats 4000000 in
theorem minus_calls (a : Option Addr) (n c : Nat) (a' : Option Addr) (n' c' : Nat) (x y : Nat) (w : World) (h : NumAt w ⟨a, n, c⟩ x) (h' : NumAt w ⟨a', n', c'⟩ y) (hn : n ≤ 1000) (hxy : y ≤ x) :
    Calls Try.prog 72 #[.slice a n c, .slice a' n' c'] w fun e w' => ∃ s : Sl, e = .returned (.slice s.a s.len s.cap) ∧ NumAt w' s (x - y) ∧ Cls w w' := by
  have hle : n ≤ c := h.2.1
  have hmax : c ≤ maxLen := h.2.2.1
  have hle' : n' ≤ c' := h'.2.1
  have hmax' : c' ≤ maxLen := h'.2.2.1
  unfold maxLen at hmax hmax'
  have HL : Hid (n = (digs x).length) := Lib.hid h.1
  have HL' : Hid (n' = (digs y).length) := Lib.hid h'.1
  have H := Lib.hid h.2.2.2
  have H' := Lib.hid h'.2.2.2
  have HXY := Lib.hid hxy
  have hn' : n' ≤ n := by
    rw [HL.out, HL'.out]
    rcases Nat.lt_or_ge (digs x).length (digs y).length with h0 | h0
    · have := lt_of_len_lt h0; omega
    · exact h0
  clear h h' hxy
  obtain ⟨i0, hi, hz0, hz1, hz2⟩ := info_parts infoU
  go_enter Try.func72, Try.ntmps72
  go_wp2_with fail
  go_loopw [5, 6, 7] (fun v s i wr => ∃ k : Nat, k ≤ n ∧ i = .int .i64 k ∧ s = .int .u64 (miB (digs x) (digs y) k) ∧ Hid (wr.ownsRow w.heap.size 91 1 v k (flatU (miL (digs x) (digs y) k))) ∧ Hid (Below w.heap.size w wr)) (fun _ _ i _ => 1000 - (intOf i).toNat)
  case atStart => exact ⟨0, by omega, rfl, rfl, Lib.hid (World.ownsRow_nil _ _ _ 1), Lib.hid (Below.refl _ _)⟩
  case round =>
    obtain ⟨k, hk, rfl, rfl, hown, hbel⟩ := hrel
    have hcb := miB_le (digs x) (digs y) k
    have hxb := (dg_digs x).getD k
    have hyb := (dg_digs y).getD k
    have ES : Hid (((miB (digs x) (digs y) (k + 1) : Nat) : Int) = 1 - ((((digs x).getD k 0 : Nat) : Int) + 1000000000 - (miB (digs x) (digs y) k : Nat) - ((digs y).getD k 0 : Nat)) / 1000000000) := Lib.hid (by simp only [miB]; omega)
    have EL : Hid (flatU (miL (digs x) (digs y) (k + 1)) = flatU (miL (digs x) (digs y) k) ++ [.int .u64 (((((digs x).getD k 0 : Nat) : Int) + 1000000000 - (miB (digs x) (digs y) k : Nat) - ((digs y).getD k 0 : Nat)) % 1000000000)]) := Lib.hid (by
      rw [miL_succ, flatU_append]
      have : ((miD (digs x) (digs y) k : Nat) : Int) = ((((digs x).getD k 0 : Nat) : Int) + 1000000000 - (miB (digs x) (digs y) k : Nat) - ((digs y).getD k 0 : Nat)) % 1000000000 := by simp only [miD]; omega
      simp only [flatU, List.map_cons, List.map_nil, this])
    have Y0 : Hid (¬ k < n' → (digs y).getD k 0 = 0) := Lib.hid (getD_end HL'.out)
    have CX : Hid (k < n → ∃ b off, a = some ⟨b, off, none⟩ ∧ b < w.heap.size ∧ w.cell? ⟨b, off + k, none⟩ = some (.int .u64 ((digs x).getD k 0))) := Lib.hid fun hlt => by
      obtain ⟨b, off, ea, hb, hc⟩ := H.out.resolve_left (by show ¬ n = 0; omega)
      exact ⟨b, off, ea, hb, hc k hlt⟩
    have CY : Hid (k < n' → ∃ b off, a' = some ⟨b, off, none⟩ ∧ b < w.heap.size ∧ w.cell? ⟨b, off + k, none⟩ = some (.int .u64 ((digs y).getD k 0))) := Lib.hid fun hlt => by
      obtain ⟨b, off, ea, hb, hc⟩ := H'.out.resolve_left (by show ¬ n' = 0; omega)
      exact ⟨b, off, ea, hb, hc k hlt⟩
    have hcell : ∀ b o, b < w.heap.size → wr.cell? ⟨b, o, none⟩ = w.cell? ⟨b, o, none⟩ := fun b o h => hbel.out.cell (p := ⟨b, o, none⟩) h
    have hsz := hbel.out.size
    by_cases hlt : k < n
    · obtain ⟨b, off, ea, hb, q⟩ := CX.out hlt
      subst ea
      have r := (hcell b (off + k) hb).trans q
      have hb1 : b < wr.heap.size := by omega
      clear q CX H
      by_cases hlt' : k < n'
      · obtain ⟨b', off', ea', hb', q'⟩ := CY.out hlt'
        subst ea'
        have r' := (hcell b' (off' + k) hb').trans q'
        have hb1' : b' < wr.heap.size := by omega
        clear q' CY H' hcell Y0
        generalize (digs x).getD k 0 = p at *
        generalize (digs y).getD k 0 = p' at *
        generalize miB (digs x) (digs y) k = ca at *
        go_wp2_with (at_builtin; refine wpList_append_own_at _ rfl _ _ 65 rfl w.heap.size 91 i0 (.int .u64 0) 1 8 Try.underlying65 hi hz0 hz1 hz2 rfl (by decide) _ k _ rfl (own_later' hown.out (by repeat first | with_reducible exact Below.refl _ _ | with_reducible refine Below.setCell ?_ (by first | omega | (simp; done) | (simp; omega)) _ | with_reducible refine Below.alloc ?_ (by first | omega | (simp; done) | (simp; omega)) _ | with_reducible refine Below.drew ?_ | with_reducible refine Ext.on _ ?_ (by first | omega | (simp; done) | (simp; omega)))) ⟨wr.heap.size, 0, none⟩ 1 1 [.int .u64 _] rfl rfl (cells_new' _ _ _) (one_u _) (by unfold maxLen; omega) (by omega) (by first | (simp; done) | (simp; omega)) ?_; intro v1 w1 hown1 hg1 _ _; have HB1 : Hid (Below w.heap.size w w1) := Lib.hid (Below.grown (w := wr.alloc _) (hbel.out.alloc (by omega) _) hg1 (by first | (simp; done) | (simp; omega)) (fun k hk => (hown.out.lt k hk).1)); have HO1 := Lib.hid hown1; clear hown1 hg1)
        go_roundw
        case rel => exact ⟨k + 1, by omega, by go_num, by rw [ES.out], Lib.hid (by rw [EL.out]; exact HO1.out), HB1⟩
        case measure => first | (simp [intOf]; done) | (simp [intOf]; omega)
      · rw [Y0.out hlt', Int.natCast_zero, Int.sub_zero] at EL ES
        clear CY H' hcell Y0 hyb
        generalize (digs x).getD k 0 = p at *
        generalize miB (digs x) (digs y) k = ca at *
        go_wp2_with (at_builtin; refine wpList_append_own_at _ rfl _ _ 65 rfl w.heap.size 91 i0 (.int .u64 0) 1 8 Try.underlying65 hi hz0 hz1 hz2 rfl (by decide) _ k _ rfl (own_later' hown.out (by repeat first | with_reducible exact Below.refl _ _ | with_reducible refine Below.setCell ?_ (by first | omega | (simp; done) | (simp; omega)) _ | with_reducible refine Below.alloc ?_ (by first | omega | (simp; done) | (simp; omega)) _ | with_reducible refine Below.drew ?_ | with_reducible refine Ext.on _ ?_ (by first | omega | (simp; done) | (simp; omega)))) ⟨wr.heap.size, 0, none⟩ 1 1 [.int .u64 _] rfl rfl (cells_new' _ _ _) (one_u _) (by unfold maxLen; omega) (by omega) (by first | (simp; done) | (simp; omega)) ?_; intro v1 w1 hown1 hg1 _ _; have HB1 : Hid (Below w.heap.size w w1) := Lib.hid (Below.grown (w := wr.alloc _) (hbel.out.alloc (by omega) _) hg1 (by first | (simp; done) | (simp; omega)) (fun k hk => (hown.out.lt k hk).1)); have HO1 := Lib.hid hown1; clear hown1 hg1)
        go_roundw
        case rel => exact ⟨k + 1, by omega, by go_num, by rw [ES.out], Lib.hid (by rw [EL.out]; exact HO1.out), HB1⟩
        case measure => first | (simp [intOf]; done) | (simp [intOf]; omega)
    · obtain rfl : k = n := by omega
      have HP := Lib.hid (minus_end HXY.out HL.out.symm)
      have HD := Lib.hid (miL_dg (digs x) (digs y) k)
      have HLN : Hid ((miL (digs x) (digs y) k).length = k) := Lib.hid (miL_length _ _ _)
      clear CX CY Y0 hcell H H' ES EL hxb hyb
      generalize miL (digs x) (digs y) k = L at *
      generalize miB (digs x) (digs y) k = ca at *
      obtain ⟨⟨a1, n1, c1⟩, hv1, hat, _⟩ := UAt.of_own (l := L) (by rw [HLN.out]; exact hown.out)
      simp only [Sl.v] at hv1
      subst hv1
      have T1 := Lib.hid (trim_calls a1 n1 c1 L wr hat HD.out)
      have T2 := Lib.hid (trimmed hat HD.out)
      rw [HP.out] at T1 T2
      clear hat
      go_wp2_with (go_at_call 99; (with_reducible refine T1.out.mono ?_); rintro e _ ⟨rfl, rfl⟩)
      go_ret
      exact ⟨⟨_, _, _⟩, rfl, T2.out, Cls.of hbel.out⟩
end Go.Proofs.Ythbdkhmgopahbaa
