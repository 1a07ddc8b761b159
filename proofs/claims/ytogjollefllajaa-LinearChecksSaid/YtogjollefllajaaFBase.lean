/-
  Slices of unsigned numbers, and what holds them.
-/
import Derived.Test.YtogjollefllajaaChecked
import Derived.Test.YtogjollefllajaaTail
import Derived.Test.YtogjollefllajaaFMath
import Derived.ProofKit
import Derived.Deep.Slices
import Derived.Maps.AppendAt
import Derived.Laws.AppendOwnNone
import Derived.OwnWalk
import Derived.Laws.Entries
import Derived.BigQuiet
import Derived.Lib.Hide
import Derived.LoopTactic
import Derived.Lib.SmallJoins
set_option linter.unusedVariables false
namespace Go.Proofs.Ytogjollefllajaa
open Go Go.RowKit Go.Deep
/-- A slice's three parts. -/
structure Sl where
  a : Option Addr
  len : Nat
  cap : Nat
def Sl.v (s : Sl) : Value := .slice s.a s.len s.cap
def Sl.z : Sl := ⟨none, 0, 0⟩
/-- The slice holds these numbers. -/
def UAt (w : World) (s : Sl) (l : List Nat) : Prop :=
  s.len = l.length ∧ s.len ≤ s.cap ∧ s.cap ≤ maxLen ∧ (s.len = 0 ∨ ∃ b off, s.a = some ⟨b, off, none⟩ ∧ b < w.heap.size ∧ ∀ i, i < s.len → w.cell? ⟨b, off + i, none⟩ = some (.int .u64 (l.getD i 0)))
theorem UAt.later {w w' : World} {s : Sl} {l : List Nat} (h : UAt w s l) (hb : Below w.heap.size w w') : UAt w' s l := by
  obtain ⟨h1, h2, h3, h4⟩ := h
  refine ⟨h1, h2, h3, h4.imp id ?_⟩
  rintro ⟨b, off, ha, hlt, hc⟩
  exact ⟨b, off, ha, Nat.lt_of_lt_of_le hlt hb.size, fun i hi => by rw [hb.cell (p := ⟨b, _, none⟩) hlt]; exact hc i hi⟩
theorem UAt.cut {w : World} {a : Option Addr} {n c : Nat} {l : List Nat} (h : UAt w ⟨a, n, c⟩ l) {k : Nat} (hk : k ≤ l.length) : UAt w ⟨a, k, c⟩ (l.take k) := by
  obtain ⟨h1, h2, h3, h4⟩ := h
  simp only at *
  refine ⟨by simp [hk], by show k ≤ c; omega, h3, ?_⟩
  rcases h4 with h4 | ⟨b, off, ha, hlt, hc⟩
  · left; show k = 0; omega
  · right
    refine ⟨b, off, ha, hlt, fun i hi => ?_⟩
    simp only at hi
    have : (l.take k).getD i 0 = l.getD i 0 := by simp [List.getD, hi]
    rw [this]; exact hc i (by show i < n; omega)
theorem UAt.nil {w : World} : UAt w Sl.z [] := ⟨rfl, Nat.le_refl _, Nat.zero_le _, .inl rfl⟩
def flatU (l : List Nat) : List Value := l.map fun n => .int .u64 (n : Nat)
theorem flatU_append (l m : List Nat) : flatU (l ++ m) = flatU l ++ flatU m := by simp [flatU]
theorem flatU_length (l : List Nat) : (flatU l).length = l.length := by simp [flatU]
theorem flatU_one (l : List Nat) : ∀ u ∈ flatU l, u.oneCell' = true := by
  intro u h
  obtain ⟨n, _, rfl⟩ := List.mem_map.1 h
  rfl
theorem add_none (b off j : Nat) : (⟨b, off, none⟩ : Addr).add j = ⟨b, off + j, none⟩ := by unfold Addr.add; split <;> simp_all
theorem cells_new' (w : World) (l : List Value) (t : TypeId) : ∀ j u, l[j]? = some u → (w.alloc (.cells l.toArray t)).cell? ((⟨w.heap.size, 0, none⟩ : Addr).add j) = some u := by
  intro j u h
  rw [add_none, Nat.zero_add, cell_of_row _ _ _ l.toArray t (0, 0) (heap_alloc_new w _)]
  simpa using h
theorem own_later' {w w' : World} {base size n : Nat} {e : TypeId} {v : Value} {xs : List Value} (h : w.ownsRow base e size v n xs) (hb : Below w.heap.size w w') : w'.ownsRow base e size v n xs := by
  refine ⟨h.1, h.2.imp id ?_⟩
  rintro ⟨g, cap, cur, hv, hg, hh, rest⟩
  exact ⟨g, cap, cur, hv, hg, (hb.block g (Array.getElem?_eq_some_iff.1 hh).1).trans hh, rest⟩
theorem infoU : (Try.prog.info? 82).map (fun i => (i.zero, i.size, i.bytes)) = some (some (.int .u64 0), 1, 8) := by kernel_rfl
theorem info_parts {P : Program} {t : TypeId} {z : Value} {k b : Nat} (h : (P.info? t).map (fun i => (i.zero, i.size, i.bytes)) = some (some z, k, b)) : ∃ i, P.info? t = some i ∧ i.zero = some z ∧ i.size = k ∧ i.bytes = b := by
  cases hi : P.info? t with
  | none => simp [hi] at h
  | some i => simp [hi] at h; exact ⟨i, rfl, h.1, h.2.1, h.2.2⟩
/-- A row of numbers that a call made, as a slice. -/
theorem UAt.of_own {w : World} {base : Nat} {v : Value} {l : List Nat} (h : w.ownsRow base 82 1 v l.length (flatU l)) : ∃ s : Sl, v = s.v ∧ UAt w s l ∧ ∀ b off, s.a = some ⟨b, off, none⟩ → base ≤ b := by
  rcases h.2 with ⟨rfl, h0⟩ | ⟨g, cap, cur, rfl, hb, hh, hn, hc, hr, ht⟩
  · exact ⟨Sl.z, rfl, ⟨h0.symm, Nat.le_refl _, Nat.zero_le _, .inl rfl⟩, fun _ _ h => by cases h⟩
  · refine ⟨⟨some ⟨g, 0, none⟩, l.length, cap⟩, rfl, ⟨rfl, hn, hc, .inr ⟨g, 0, rfl, (Array.getElem?_eq_some_iff.1 hh).1, fun i hi => ?_⟩⟩, fun b off hb2 => by simp only [Option.some.injEq, Addr.mk.injEq] at hb2; omega⟩
    have hi2 : i < l.length := hi
    have hcell := World.ownsRow.cells h (g := g) rfl
    have c0 := hcell i (.int .u64 (l.getD i 0)) (by simp [flatU, List.getD, hi2])
    rw [add_none] at c0
    exact c0
/-- What a literal holds. -/
theorem UAt.lit {w : World} {g : Nat} {l : List Nat} {cur : Array Value} {t : TypeId} {sp : Nat × Nat} (hh : w.heap[g]? = some (.cells cur t sp)) (hc : cur.toList = flatU l) (hm : l.length ≤ maxLen) : UAt w ⟨some ⟨g, 0, none⟩, l.length, l.length⟩ l := by
  refine ⟨rfl, Nat.le_refl _, hm, .inr ⟨g, 0, rfl, (Array.getElem?_eq_some_iff.1 hh).1, fun i hi => ?_⟩⟩
  have hi2 : i < l.length := hi
  rw [cell_of_row _ _ _ cur t sp hh, Nat.zero_add, ← Array.getElem?_toList, hc]
  simp [flatU, List.getD, hi2]
/-- A number of the reference: the digits of n. -/
def NumAt (w : World) (s : Sl) (n : Nat) : Prop := UAt w s (digs n)
theorem NumAt.later {w w' : World} {s : Sl} {n : Nat} (h : NumAt w s n) (hb : Below w.heap.size w w') : NumAt w' s n := UAt.later h hb
theorem trimmed {w : World} {a : Option Addr} {n c : Nat} {l : List Nat} (h : UAt w ⟨a, n, c⟩ l) (hd : Dg l) : NumAt w ⟨a, (digs (vl l)).length, c⟩ (vl l) := by
  have := h.cut (digs_len_vl hd)
  rwa [take_digs hd] at this
theorem UAt.new (w : World) (l : List Nat) (arr : Array Value) (t : TypeId) (n : Nat) (hn : n = l.length) (h : arr.toList = flatU l) (hm : l.length ≤ 2 ^ 40) : UAt (w.alloc (.cells arr t)) ⟨some ⟨w.heap.size, 0, none⟩, n, n⟩ l := by
  subst hn
  exact UAt.lit (heap_alloc_new w _) h (by unfold maxLen; omega)
def slLen : Value → Nat
  | .slice _ n _ => n
  | _ => 0
set_option maxHeartbeats 2000000 in
theorem trim_calls (a : Option Addr) (n c : Nat) (l : List Nat) (w : World) (h : UAt w ⟨a, n, c⟩ l) (hd : Dg l) :
    Calls Try.prog 84 #[.slice a n c] w fun e w' => e = .returned (.slice a (digs (vl l)).length c) ∧ w = w' := by
  have hlen : n = l.length := h.1
  have hle : n ≤ c := h.2.1
  have hmax : c ≤ maxLen := h.2.2.1
  unfold maxLen at hmax
  have H := Lib.hid h.2.2.2
  have HD := Lib.hid hd
  have HL := Lib.hid hlen
  clear h hd hlen
  go_enter Try.func84, Try.ntmps84
  go_wp2_with fail
  go_loop [0] (fun v => ∃ k : Nat, k ≤ n ∧ v = .slice a k c ∧ Hid (vl (l.take k) = vl l)) (fun v => slLen v)
  case atStart => exact ⟨n, Nat.le_refl _, rfl, Lib.hid (vl_take_all _ _ (by rw [HL.out]; exact Nat.le_refl _))⟩
  case round =>
    obtain ⟨k, hk, rfl, hv⟩ := hrel
    by_cases h0 : 0 < k
    · obtain ⟨b, off, ea, hb, hcell⟩ := H.out.resolve_left (by show ¬ n = 0; omega)
      have ea' : a = some ⟨b, off, none⟩ := ea
      subst ea'
      clear ea
      have q := hcell (k - 1) (by show k - 1 < n; omega)
      have HE : Hid (l.getD (k - 1) 0 ≠ 0 → k = (digs (vl l)).length) := Lib.hid (fun hz => by
        have := digs_take HD.out (k := k) (by rw [← HL.out]; exact hk) hv.out (.inr hz)
        rw [← this, List.length_take, ← HL.out, Nat.min_eq_left hk])
      have HS : Hid (l.getD (k - 1) 0 = 0 → vl (l.take (k - 1)) = vl l) := Lib.hid (fun hz => trim_step hv.out h0 hz)
      clear hcell
      generalize l.getD (k - 1) 0 = x at *
      have e1 : ((k : Int) - 1).toNat = k - 1 := by omega
      by_cases hx : x = 0
      · subst hx
        go_wp2_with fail
        go_round
        case rel => exact ⟨k - 1, by omega, by first | rfl | simp, Lib.hid (HS.out rfl)⟩
        case measure => simp [slLen]; omega
      · have d1 : ((x : Int) == 0) = false := by simp; omega
        have HX := Lib.hid hx
        clear hx
        go_wp2_with fail
        go_ret
        exact ⟨by rw [← HE.out HX.out]; rfl, rfl⟩
    · obtain rfl : k = 0 := by omega
      go_wp2_with fail
      go_ret
      refine ⟨?_, rfl⟩
      have : vl l = 0 := by rw [← hv.out]; simp [vl]
      rw [this, digs_zero]; rfl
end Go.Proofs.Ytogjollefllajaa
