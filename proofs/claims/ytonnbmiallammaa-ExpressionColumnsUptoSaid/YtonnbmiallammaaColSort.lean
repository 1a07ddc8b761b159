/-
  The columns of an expression, as the program gives them: sorted, and neighbours that are equal struck.
-/
import Derived.Test.YtonnbmiallammaaColApp
import Derived.Test.YtonnbmiallammaaShelf
set_option linter.unusedVariables false
namespace Go.Proofs.Ytonnbmiallammaa
open Go Go.RowKit Go.Deep Go.Sort
def srt (xs : List Int) : List Int := xs.mergeSort fun x y => decide (x ≤ y)
theorem srt_len (xs : List Int) : (srt xs).length = xs.length := List.length_mergeSort xs
theorem holdsI {w : World} {g : Nat} {cur : Array Value} {e : TypeId} {xs : List Int} (hb : w.heap[g]? = some (.cells cur e (0, 0))) (ht : cur.toList.take xs.length = flatI xs) : Go.Sort.Holds (Value.int .i64) w g 0 xs.toArray := by
  intro j hj
  have hj' : j < xs.length := by simpa using hj
  refine ⟨?_, by simp [World.frozen?, hb]⟩
  have h1 : (cur.toList.take xs.length)[j]? = (flatI xs)[j]? := by rw [ht]
  rw [List.getElem?_take_of_lt hj'] at h1
  simp only [World.cell?, hb, Nat.zero_add]
  simp only [Option.isSome_none, Bool.false_eq_true, if_false]
  rw [← Array.getElem?_toList, h1]
  simp [flatI, hj']
theorem heap_put {w : World} {g n : Nat} {cur : Array Value} {e : TypeId} {fr : Nat × Nat} (d : Array Int) (hb : w.heap[g]? = some (.cells cur e fr)) :
    (putRow (Value.int .i64) (Sort.ahead w n) g 0 d).heap[g]? = some (.cells (putCells (Value.int .i64) 0 d cur) e fr) := by
  simp [putRow, mapBlock, Sort.ahead, Array.getElem?_modify, hb, onCells]
theorem below_put {w : World} {base g n : Nat} (d : Array Int) (hg : base ≤ g) (hb : base ≤ w.heap.size) : Below base w (putRow (Value.int .i64) (Sort.ahead w n) g 0 d) := by
  refine ⟨rfl, rfl, rfl, by simp [putRow, mapBlock, Sort.ahead], fun k hk => ?_⟩
  have hne : g ≠ k := by omega
  simp [putRow, mapBlock, Sort.ahead, Array.getElem?_modify, hne]
theorem below_grow {base : Nat} {w w' : World} (h : Below base w w') (os : Array Obj) (hb : base ≤ w.heap.size) : Below base w (grow w' os) := by
  refine ⟨h.os, h.tape, h.output, Nat.le_trans h.size (by simp [grow]), fun k hk => ?_⟩
  rw [heap_grow_old _ _ (by have := h.size; omega)]
  exact h.block k hk
theorem take_putI (cur : Array Value) (ts : List Int) (h : ts.length ≤ cur.size) : (putCells (Value.int .i64) 0 ts.toArray cur).toList.take ts.length = flatI ts := by
  apply List.ext_getElem?
  intro j
  by_cases hj : j < ts.length
  · rw [List.getElem?_take_of_lt hj, Array.getElem?_toList]
    simp [putCells, flatI, hj, show j < cur.size by omega]
  · rw [List.getElem?_take_eq_none (by omega), List.getElem?_eq_none (by simp [flatI]; omega)]
theorem own_base {w : World} {base n size : Nat} {e : TypeId} {v : Value} {xs : List Value} (h : w.ownsRow base e size v n xs) {g : Nat} (hg : v.ownBlock = some g) : base ≤ w.heap.size := by
  have := h.lt g hg; omega
theorem Sort_own (base : Nat) (v : Value) (xs : List Int) (w : World) (h : w.ownsRow base 3 1 v xs.length (flatI xs)) (hl : xs.length ≤ 2 ^ 40) :
    Calls Try.prog 23 #[v] w fun r w' => r = .returned (.tuple #[]) ∧ w'.ownsRow base 3 1 v (srt xs).length (flatI (srt xs)) ∧ Below base w w' := by
  rcases h.2 with ⟨rfl, h0⟩ | ⟨g, cap, cur, rfl, hb, hh, hn, hc, hr, ht⟩
  · obtain rfl : xs = [] := List.eq_nil_of_length_eq_zero h0
    refine (Try.slices_Sort_int_none none 0 w).mono fun r w' ⟨hr, hw⟩ => ?_
    subst hr hw
    have e : srt [] = [] := List.eq_nil_of_length_eq_zero (srt_len [])
    exact ⟨rfl, by rw [e]; exact h, Below.refl _ _⟩
  · have hlt := (Array.getElem?_eq_some_iff.1 hh).1
    rw [Nat.mul_one] at ht hr
    refine (Try.slices_Sort_int g 0 cap xs w (holdsI hh ht) hlt (by omega)).mono fun r w' ⟨hr', n, os, hw⟩ => ?_
    subst hr' hw
    refine ⟨rfl, ?_, below_grow (below_put _ hb (by omega)) _ (by omega)⟩
    refine ⟨by simp [flatI], .inr ⟨g, cap, putCells (Value.int .i64) 0 (srt xs).toArray cur, by rw [srt_len], hb, ?_, by rw [srt_len]; exact hn, hc, by simp [putCells, hr], ?_⟩⟩
    · rw [heap_grow_old _ _ (by simpa [putRow, mapBlock, Sort.ahead] using hlt)]
      exact heap_put _ hh
    · rw [Nat.mul_one]
      exact take_putI cur (srt xs) (by rw [srt_len]; omega)
theorem compact_len (xs : List Int) : (Lib.compact xs).length ≤ xs.length := by
  unfold Lib.compact Lib.compactUpTo
  rw [List.length_map]
  exact Nat.le_trans (List.length_filter_le _ _) (by simp)
theorem IntsIn.cut {w : World} {a : Option Addr} {n c m : Nat} {l : List Int} (h : IntsIn w ⟨a, n, c⟩ l) (hm : m ≤ l.length) : IntsIn w ⟨a, m, c⟩ (l.take m) := by
  have hn : n = l.length := h.1
  have hc : n ≤ c := h.2.1
  refine ⟨(List.length_take_of_le hm).symm, by show m ≤ c; omega, h.2.2.1, fun ha => ?_, fun i hi => ?_⟩
  · have h1 : n = 0 ∧ c = 0 := h.2.2.2.1 ha
    exact ⟨by show m = 0; omega, h1.2⟩
  · have hi2 : i < m := hi
    obtain ⟨b, off, ha, hb, hcell⟩ := h.2.2.2.2 i (by show i < n; omega)
    refine ⟨b, off, ha, hb, fun j hj => ?_⟩
    rw [hcell j hj]
    simp [iC, List.getD, hi2]
theorem Compact_own (base : Nat) (v : Value) (xs : List Int) (w : World) (h : w.ownsRow base 3 1 v xs.length (flatI xs)) (hl : xs.length ≤ 2 ^ 40) :
    Calls Try.prog 24 #[v] w fun r w' => ∃ s : Sl, r = .returned (.slice s.a s.len s.cap) ∧ IntsIn w' s (Lib.compact xs) ∧ Below base w w' := by
  rcases h.2 with ⟨rfl, h0⟩ | ⟨g, cap, cur, rfl, hb, hh, hn, hc, hr, ht⟩
  · obtain rfl : xs = [] := List.eq_nil_of_length_eq_zero h0
    refine (Try.slices_Compact_int_empty none 0 w).mono fun r w' ⟨hr, hw⟩ => ?_
    subst hr hw
    exact ⟨Sl.z, rfl, by rw [compact_nil]; exact IntsIn.nil, Below.refl _ _⟩
  · have hlt := (Array.getElem?_eq_some_iff.1 hh).1
    rw [Nat.mul_one] at ht hr
    refine (Try.slices_Compact_int g 0 cap xs w (holdsI hh ht) (by omega) hn).mono fun r w' ⟨hr', n, hw⟩ => ?_
    subst hr' hw
    have hcl := compact_len xs
    refine ⟨⟨some ⟨g, 0, none⟩, (Lib.compact xs).length, cap⟩, rfl, ?_, below_put _ hb (by omega)⟩
    have hlen : (Lib.compact xs ++ List.replicate (xs.length - (Lib.compact xs).length) (0 : Int)).length = xs.length := by simp; omega
    have hown : (putRow (Value.int .i64) (Sort.ahead w n) g 0 (Lib.compact xs ++ List.replicate (xs.length - (Lib.compact xs).length) (0 : Int)).toArray).ownsRow base 3 1 (.slice (some ⟨g, 0, none⟩) xs.length cap) (Lib.compact xs ++ List.replicate (xs.length - (Lib.compact xs).length) (0 : Int)).length (flatI (Lib.compact xs ++ List.replicate (xs.length - (Lib.compact xs).length) (0 : Int))) := by
      refine ⟨by simp [flatI], .inr ⟨g, cap, putCells (Value.int .i64) 0 (Lib.compact xs ++ List.replicate (xs.length - (Lib.compact xs).length) (0 : Int)).toArray cur, by rw [hlen], hb, heap_put _ hh, by rw [hlen]; exact hn, hc, by simp [putCells, hr], ?_⟩⟩
      rw [Nat.mul_one]
      exact take_putI cur _ (by rw [hlen]; omega)
    obtain ⟨s, hs, hin⟩ := IntsIn.of_own hown
    obtain ⟨sa, sn, sc⟩ := s
    simp only [Sl.v, Value.slice.injEq] at hs
    obtain ⟨rfl, rfl, rfl⟩ := hs
    have h2 := hin.cut (m := (Lib.compact xs).length) (by rw [hlen]; exact hcl)
    rwa [List.take_left' rfl] at h2
set_option maxHeartbeats 4000000 in
set_option maxRecDepth 20000 in
theorem Columns_calls (e : Ex) (a : Option Addr) (len cap : Nat) (w : World) (hk : Kids w (fun _ => True) a len cap e.kids) (hc : cntE e ≤ 2 ^ 21) :
    Calls Try.prog 9 #[.agg #[.int .i64 (e).op, .int .i64 (e).ty, .int .i64 (e).num, .string (e).text, .int .i64 (e).col, .slice a len cap]] w fun r w' => ∃ s : Sl, r = .returned (.slice s.a s.len s.cap) ∧ IntsIn w' s (rcE e) ∧ Cls w w' := by
  have C1 : Hid (∀ W, Below w.heap.size w W → Calls Try.prog 22 #[.slice none 0 0, .agg #[.int .i64 (e).op, .int .i64 (e).ty, .int .i64 (e).num, .string (e).text, .int .i64 (e).col, .slice a len cap]] W fun r w' => ∃ v', r = .returned v' ∧ w'.ownsRow w.heap.size 3 1 v' (colsE e).length (flatI (colsE e)) ∧ Below w.heap.size w w') := Lib.hid (fun W hW =>
    (appendColumns_calls e w.heap.size (.slice none 0 0) [] a len cap W (hk.carry hW.size fun b hb _ => ⟨hb, hW.block b hb⟩) (World.ownsRow_nil _ _ _ 1) hW.size (by simp; omega)).mono fun r w' ⟨v', hr, ho, hh⟩ => ⟨v', hr, ho, hW.trans (hh.below (World.ownsRow_nil _ _ 3 1) hW.size)⟩)
  have HL : Hid ((colsE e).length ≤ 2 ^ 40) := Lib.hid (Nat.le_trans (colsE_len e) (by omega))
  have HE : Hid (Lib.compact (srt (colsE e)) = rcE e) := Lib.hid (pcE_eq e)
  clear hk hc
  go_enter Try.func9, Try.ntmps9
  go_wp2_with (first | (go_at_call 22; ((with_reducible refine (C1.out _ ?_).mono ?_); (· (repeat first | with_reducible exact Below.refl _ _ | with_reducible refine Below.setCell ?_ (by first | omega | (simp; done) | (simp; omega)) _ | with_reducible refine Below.alloc ?_ (by first | omega | (simp; done) | (simp; omega)) _ | with_reducible refine Below.drew ?_ | with_reducible refine Ext.on _ ?_ (by first | omega | (simp; done) | (simp; omega)))); rintro r w1 hq; obtain ⟨v1, rfl, ho1, hb1⟩ := hq; have HO1 := Lib.hid ho1; have HB1 := Lib.hid hb1; clear ho1 hb1)) | (go_at_call 23; ((with_reducible refine (Sort_own w.heap.size v1 (colsE e) w1 HO1.out HL.out).mono ?_); rintro r w2 hq; obtain ⟨rfl, ho2, hb2⟩ := hq; have HO2 := Lib.hid ho2; have HB2 := Lib.hid (HB1.out.trans hb2); clear ho2 hb2)) | (go_at_call 24; ((with_reducible refine (Compact_own w.heap.size v1 (srt (colsE e)) w2 HO2.out (by rw [srt_len]; exact HL.out)).mono ?_); rintro r w3 hq; obtain ⟨s, rfl, hi3, hb3⟩ := hq; have HI3 := Lib.hid hi3; have HB3 := Lib.hid (HB2.out.trans hb3); clear hi3 hb3)))
  go_ret
  exact ⟨s, rfl, by rw [← HE.out]; exact HI3.out, Cls.of HB3.out⟩
end Go.Proofs.Ytonnbmiallammaa
