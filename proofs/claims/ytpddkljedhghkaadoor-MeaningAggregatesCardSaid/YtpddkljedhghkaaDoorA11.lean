/-
  A list of values sorted: slices.SortFunc with the comparison of values. What the program's choose and member give.
-/
import Derived.Test.YtpddkljedhghkaaDoorA07
import Derived.Test.YtpddkljedhghkaaDoorA08
import Derived.Test.YtpddkljedhghkaaDoorA10
import Derived.Test.YtpddkljedhghkaaDoorA09
set_option linter.unusedVariables false
namespace Go.Proofs.YtpddkljedhghkaaDoor.BG
open Go Go.RowKit Go.Sort
def ascV (l : List Vl) : Prop := l.Pairwise fun a b => cmpW a b ≤ 0
def cfV (x y : Vl) : Int := cmpW x y
theorem ltV2 (x y : Vl) : ltOf cfV x y = decide (cmpW x y < 0) := rfl
theorem swoV : SWO (ltOf cfV) where
  irrefl x := by rw [ltV2, cmpW_self]; rfl
  trans x y z h1 h2 := by
    rw [ltV2] at *
    have a1 := of_decide_eq_true h1
    have a2 := of_decide_eq_true h2
    have n1 := cmpW_neg x y
    have n3 := cmpW_neg x z
    refine decide_eq_true ?_
    have h3 := cmpW_trans (a := x) (b := y) (c := z) (by omega) (by omega)
    rcases Int.lt_or_eq_of_le h3 with h4 | h4
    · exact h4
    · have e := cmpW_zero h4
      subst e
      have := cmpW_neg y x
      omega
  ntrans x y z h1 h2 := by
    rw [ltV2] at *
    have a1 := of_decide_eq_false h1
    have a2 := of_decide_eq_false h2
    have n1 := cmpW_neg x y
    have n2 := cmpW_neg y z
    have n3 := cmpW_neg x z
    have := cmpW_trans (a := z) (b := y) (c := x) (by omega) (by omega)
    exact decide_eq_false (by omega)
theorem flatK_flatV (l : List Vl) : flatK vlC 3 l.toArray = (flatV l).toArray := by
  refine ext_get! (by simp [flatV_length]) fun t ht => ?_
  have ht' : t < l.length * 3 := by simpa using ht
  rw [get_flatK _ _ _ _ (by simpa using ht')]
  have hi : t / 3 < l.length := by omega
  obtain ⟨h0, h1, h2⟩ := flatV_at l (t / 3) hi
  have hg : (l.toArray)[t / 3]! = l.getD (t / 3) Vl.z := by simp [List.getD, hi]
  rw [hg]
  have hm : t = t / 3 * 3 + t % 3 := by omega
  have hx : ∀ u, (flatV l)[t]? = some u → (flatV l).toArray[t]! = u := fun u hu => by
    simp [hu]
  rcases (by omega : t % 3 = 0 ∨ t % 3 = 1 ∨ t % 3 = 2) with e | e | e
  · rw [e] at hm ⊢
    rw [hx _ (by rw [hm]; exact h0)]; rfl
  · rw [e] at hm ⊢
    rw [hx _ (by rw [hm]; exact h1)]; rfl
  · rw [e] at hm ⊢
    rw [hx _ (by rw [hm]; exact h2)]; rfl
theorem below_sortK {w : World} {base g n : Nat} (d : Array Vl) (os : Array Obj) (hg : base ≤ g) (hb : base ≤ w.heap.size) : Below base w (sortWorldK vlC 3 w g 0 n d os) :=
  below_grow (below_put id (flatK vlC 3 d) hg) os hb
theorem take_putId (cur : Array Value) (ts : List Value) (h : ts.length ≤ cur.size) : (putCells id 0 ts.toArray cur).toList.take ts.length = ts := by
  apply List.ext_getElem?
  intro j
  by_cases hj : j < ts.length
  · rw [List.getElem?_take_of_lt hj, Array.getElem?_toList]
    simp [putCells, hj, show j < cur.size by omega]
  · rw [List.getElem?_take_eq_none (by omega), List.getElem?_eq_none (by omega)]
theorem aggV2 : ∀ w, (isAgg 39).run Tryd.prog w = .ok true w := fun w => by kernel_rfl
theorem sizV2 : ∀ w, (Go.sizeOf 39).run Tryd.prog w = .ok 3 w := fun w => by kernel_rfl
set_option maxHeartbeats 2000000 in
set_option maxRecDepth 20000 in
theorem SortV_own (base : Nat) (v : Value) (l : List Vl) (w : World) (hbase : base ≤ w.heap.size) (h : w.ownsRow base 39 3 v l.length (flatV l)) (hl : l.length ≤ 10000) :
    Calls Tryd.prog 110 #[v, .func (.func 111) #[] #[]] w fun r w' => r = .returned (.tuple #[]) ∧ ∃ l', w'.ownsRow base 39 3 v l.length (flatV l') ∧ l'.Perm l ∧ ascV l' ∧ Below base w w' := by
  rcases h.2 with ⟨rfl, h0⟩ | ⟨g, cap, cur, rfl, hb, hh, hn, hc, hr, ht⟩
  · obtain rfl : l = [] := List.eq_nil_of_length_eq_zero h0
    refine (Tryd.slices_SortFunc_none (α := Unit) none 0 _ w).mono fun r w' ⟨hr, hw⟩ => ?_
    subst hr hw
    exact ⟨rfl, [], h, List.Perm.refl _, List.Pairwise.nil, Below.refl _ _⟩
  · have hlt := (Array.getElem?_eq_some_iff.1 hh).1
    have hlen := flatV_length l
    have eg : ∀ args w, (callFunc 111 args).run Tryd.prog w = .ok (.enter 111 args) w := enters_of Tryd.func111 (by kernel_rfl) rfl
    have hcmp : CmpLays Tryd.prog 111 #[] vlC 3 cfV g 0 l.toArray.size w := fun m os dk _ x y => by
      exact (Compare_D x.k x.n x.s y.k y.n y.s _).mono fun _ _ ⟨he, hd⟩ => ⟨he, hd.grown⟩
    have hH : HoldsK vlC 3 w g 0 l.toArray := by
      unfold HoldsK
      rw [flatK_flatV]
      have := holds_put id (w := w) (g := g) (cur := cur) (xs := flatV l) hh (by rw [hlen, ht]; simp)
      exact this
    have hcon := Tryd.slices_SortFunc 3 aggV2 sizV2 vlC (fun _ => rfl) (fun x v hv => by simp only [vlC, List.mem_cons, List.not_mem_nil, or_false] at hv; rcases hv with rfl | rfl | rfl <;> rfl) cfV swoV 111 #[] g 0 cap l.toArray w eg hcmp hH hlt (by simp; omega)
    have hs : l.toArray.size = l.length := by simp
    rw [hs] at hcon
    refine hcon.mono fun r w' ⟨hr', d', n, os, hp, hso, hw⟩ => ?_
    subst hr' hw
    have hp2 : d'.toList.Perm l := by
      have := perm_of_in (d := l.toArray) (d' := d') (by rw [hs]; exact hp)
      simpa using this
    have hd : d'.toList.length = l.length := hp2.length_eq
    have hfl : flatK vlC 3 d' = (flatV d'.toList).toArray := by
      have := flatK_flatV d'.toList
      simpa using this
    refine ⟨rfl, d'.toList, ?_, hp2, ?_, below_sortK d' os hb hbase⟩
    · refine ⟨by rw [flatV_length, hd], .inr ⟨g, cap, putCells id 0 (flatV d'.toList).toArray cur, rfl, hb, ?_, hn, hc, by simp [putCells, hr], ?_⟩⟩
      · unfold sortWorldK putRowK
        rw [hfl, heap_grow_old _ _ (by simpa [putRow, mapBlock, Sort.ahead] using hlt)]
        exact heap_put id (flatV d'.toList).toArray hh
      · have hsz : (flatV d'.toList).length ≤ cur.size := by rw [flatV_length, hd, hr]; omega
        have := take_putId cur (flatV d'.toList) hsz
        rw [flatV_length, hd] at this
        exact this
    · unfold ascV
      rw [List.pairwise_iff_getElem]
      intro i j hi hj hij
      have := hso i j (Nat.zero_le _) hij (by rw [← hd]; exact hj)
      rw [ltV2] at this
      have h1 := of_decide_eq_false this
      have e1 : d'[i]! = d'.toList[i] := by
        have : i < d'.size := by simpa using hi
        simp [getElem!_pos d' i this]
      have e2 : d'[j]! = d'.toList[j] := by
        have : j < d'.size := by simpa using hj
        simp [getElem!_pos d' j this]
      rw [e1, e2] at h1
      have := cmpW_neg d'.toList[i] d'.toList[j]
      omega
end Go.Proofs.YtpddkljedhghkaaDoor.BG
set_option linter.unusedVariables false
namespace Go.Proofs.YtpddkljedhghkaaDoor
open Go Go.RowKit
set_option maxHeartbeats 2000000 in
theorem choose_calls (l : List Ex) (ih : ∀ k ∈ l, EvalOf k) (a : Option Addr) (cap : Nat) (ok : Nat → Prop) (ra : Option Addr) (rlen rcap : Nat) (row : List Vl) (w : World) (hk : Kids w ok a 3 cap l) (hr : RowIs w ra rlen rcap row) (ht : OpsTab w) :
    Calls Tryd.prog 37 #[.slice a 3 cap, .slice ra rlen rcap] w fun r w' => r = .returned (.agg #[.int .i64 (if trV (evalE (l.getD 0 Ex.z) row) = 1 then evalE (l.getD 1 Ex.z) row else evalE (l.getD 2 Ex.z) row).k, .int .i64 (if trV (evalE (l.getD 0 Ex.z) row) = 1 then evalE (l.getD 1 Ex.z) row else evalE (l.getD 2 Ex.z) row).n, .string (if trV (evalE (l.getD 0 Ex.z) row) = 1 then evalE (l.getD 1 Ex.z) row else evalE (l.getD 2 Ex.z) row).s]) ∧ Cls w w' := by
  have hlen := hk.len_eq
  have hle := hk.le
  have hmax := hk.max
  unfold maxLen at hmax
  obtain ⟨a0, len0, cap0, ⟨b, off, rfl, hb, hok, p0, p1, p2, p3, p4, p5⟩, f0, k0⟩ := hk.at_ (i := 0) (by omega)
  obtain ⟨a1, len1, cap1, ⟨_, _, e1, _, _, q0, q1, q2, q3, q4, q5⟩, f1, k1⟩ := hk.at_ (i := 1) (by omega)
  obtain ⟨a2, len2, cap2, ⟨_, _, e2, _, _, r0, r1, r2, r3, r4, r5⟩, f2, k2⟩ := hk.at_ (i := 2) (by omega)
  cases e1
  cases e2
  have C0 : Hid (∀ W, Below w.heap.size w W → Calls Tryd.prog 13 #[.agg #[.int .i64 (l.getD 0 Ex.z).op, .int .i64 (l.getD 0 Ex.z).ty, .int .i64 (l.getD 0 Ex.z).num, .string (l.getD 0 Ex.z).text, .int .i64 (l.getD 0 Ex.z).col, .slice a0 len0 cap0], .slice ra rlen rcap] W fun r w' => r = .returned (.agg #[.int .i64 (evalE (l.getD 0 Ex.z) row).k, .int .i64 (evalE (l.getD 0 Ex.z) row).n, .string (evalE (l.getD 0 Ex.z) row).s]) ∧ Cls W w') := Lib.hid (fun W hW => ih _ (getD_mem (by omega)) a0 len0 cap0 ok ra rlen rcap row W (k0.later hW) f0 (hr.later hW) (ht.later hW))
  have C1 : Hid (∀ W, Below w.heap.size w W → Calls Tryd.prog 13 #[.agg #[.int .i64 (l.getD 1 Ex.z).op, .int .i64 (l.getD 1 Ex.z).ty, .int .i64 (l.getD 1 Ex.z).num, .string (l.getD 1 Ex.z).text, .int .i64 (l.getD 1 Ex.z).col, .slice a1 len1 cap1], .slice ra rlen rcap] W fun r w' => r = .returned (.agg #[.int .i64 (evalE (l.getD 1 Ex.z) row).k, .int .i64 (evalE (l.getD 1 Ex.z) row).n, .string (evalE (l.getD 1 Ex.z) row).s]) ∧ Cls W w') := Lib.hid (fun W hW => ih _ (getD_mem (by omega)) a1 len1 cap1 ok ra rlen rcap row W (k1.later hW) f1 (hr.later hW) (ht.later hW))
  have C2 : Hid (∀ W, Below w.heap.size w W → Calls Tryd.prog 13 #[.agg #[.int .i64 (l.getD 2 Ex.z).op, .int .i64 (l.getD 2 Ex.z).ty, .int .i64 (l.getD 2 Ex.z).num, .string (l.getD 2 Ex.z).text, .int .i64 (l.getD 2 Ex.z).col, .slice a2 len2 cap2], .slice ra rlen rcap] W fun r w' => r = .returned (.agg #[.int .i64 (evalE (l.getD 2 Ex.z) row).k, .int .i64 (evalE (l.getD 2 Ex.z) row).n, .string (evalE (l.getD 2 Ex.z) row).s]) ∧ Cls W w') := Lib.hid (fun W hW => ih _ (getD_mem (by omega)) a2 len2 cap2 ok ra rlen rcap row W (k2.later hW) f2 (hr.later hW) (ht.later hW))
  simp only [Nat.zero_mul, Nat.add_zero, Nat.one_mul, Nat.reduceMul, Nat.add_assoc, Nat.reduceAdd] at p0 p1 p2 p3 p4 p5 q0 q1 q2 q3 q4 q5 r0 r1 r2 r3 r4 r5
  have hb1 : b < w.heap.size + 1 := by omega
  clear hk hr ht k0 k1 k2 f0 f1 f2 ih hlen
  generalize evalE (l.getD 0 Ex.z) row = v0 at C0 ⊢
  generalize evalE (l.getD 1 Ex.z) row = v1 at C1 ⊢
  generalize evalE (l.getD 2 Ex.z) row = v2 at C2 ⊢
  generalize l.getD 0 Ex.z = e0 at *
  generalize l.getD 1 Ex.z = e1 at *
  generalize l.getD 2 Ex.z = e2 at *
  have bT : ∃ t : Bool, (trV v0 == 1) = t ∧ (if trV v0 = 1 then v1 else v2) = bif t then v1 else v2 := ⟨trV v0 == 1, rfl, by
    by_cases h : trV v0 = 1
    · rw [if_pos h, h]; rfl
    · have h2 : (trV v0 == 1) = false := by simpa using h
      rw [if_neg h, h2]; rfl⟩
  obtain ⟨t, bT, hT⟩ := bT
  rw [hT]
  clear hT
  cases t
  all_goals
    simp only [cond_true, cond_false]
    go_enter Tryd.func37, Tryd.ntmps37
    go_wp2_with (first | (go_at_call 13; first | ((with_reducible refine (C0.out _ ?_).mono ?_); (· (repeat first | with_reducible exact Below.refl _ _ | with_reducible assumption | with_reducible refine Below.setCell ?_ (by first | omega | (simp; done) | (simp; omega)) _ | with_reducible refine Below.alloc ?_ (by first | omega | (simp; done) | (simp; omega)) _ | with_reducible refine Below.drew ?_ | with_reducible refine Ext.on _ ?_ (by first | omega | (simp; done) | (simp; omega)))); rintro r _ ⟨rfl, y0, rfl⟩; obtain ⟨l1, l2, l3, l4, l5⟩ := y0.lts (b := b) (by simp; omega); obtain ⟨m1, m2, m3, m4, m5⟩ := y0.lts (b := w.heap.size) (by simp)) | ((with_reducible refine (C1.out _ ?_).mono ?_); (· (repeat first | with_reducible exact Below.refl _ _ | with_reducible assumption | with_reducible refine Below.setCell ?_ (by first | omega | (simp; done) | (simp; omega)) _ | with_reducible refine Below.alloc ?_ (by first | omega | (simp; done) | (simp; omega)) _ | with_reducible refine Below.drew ?_ | with_reducible refine Ext.on _ ?_ (by first | omega | (simp; done) | (simp; omega)))); rintro r _ ⟨rfl, y1, rfl⟩; obtain ⟨u1, u2, u3, u4, u5⟩ := y1.lts o1) | ((with_reducible refine (C2.out _ ?_).mono ?_); (· (repeat first | with_reducible exact Below.refl _ _ | with_reducible assumption | with_reducible refine Below.setCell ?_ (by first | omega | (simp; done) | (simp; omega)) _ | with_reducible refine Below.alloc ?_ (by first | omega | (simp; done) | (simp; omega)) _ | with_reducible refine Below.drew ?_ | with_reducible refine Ext.on _ ?_ (by first | omega | (simp; done) | (simp; omega)))); rintro r _ ⟨rfl, y1, rfl⟩; obtain ⟨u1, u2, u3, u4, u5⟩ := y1.lts o1)) | (go_at_call 79; first | ((with_reducible refine (Cls.call (isTrue_calls _ _)).mono ?_); rintro r _ ⟨rfl, z0, rfl⟩; obtain ⟨n1, n2, n3, n4, n5⟩ := z0.lts l1; obtain ⟨o1, o2, o3, o4, o5⟩ := z0.lts m1) | ((with_reducible refine (isTrue_calls _ _).mono ?_); rintro r _ ⟨rfl, z0, rfl⟩; obtain ⟨n1, n2, n3, n4, n5⟩ := z0.lts l1; obtain ⟨o1, o2, o3, o4, o5⟩ := z0.lts m1)))
    have c0 : (y1.val.cell? ⟨w.heap.size, 0, none⟩).isSome = true := by rw [y1.cell 0 o1, z0.cell 0 m1, y0.cell 0 (by simp)]; simp [go_sem]
    have c1 : (y1.val.cell? ⟨w.heap.size, 1, none⟩).isSome = true := by rw [y1.cell 1 o1, z0.cell 1 m1, y0.cell 1 (by simp)]; simp [go_sem]
    have c2 : (y1.val.cell? ⟨w.heap.size, 2, none⟩).isSome = true := by rw [y1.cell 2 o1, z0.cell 2 m1, y0.cell 2 (by simp)]; simp [go_sem]
    refine ret_ex rfl ?_
    simp [results, Tryd.results37, go_sem, c0, c1, c2]
    refine Cls.of ?_
    repeat first | with_reducible exact Below.refl _ _ | with_reducible assumption | with_reducible refine Below.setCell ?_ (by first | omega | (simp; done) | (simp; omega)) _ | with_reducible refine Below.alloc ?_ (by first | omega | (simp; done) | (simp; omega)) _ | with_reducible refine Below.drew ?_ | with_reducible refine Ext.on _ ?_ (by first | omega | (simp; done) | (simp; omega))
set_option maxHeartbeats 2000000 in
theorem member_calls (l : List Ex) (ih : ∀ k ∈ l, EvalOf k) (a : Option Addr) (len cap : Nat) (ok : Nat → Prop) (ra : Option Addr) (rlen rcap : Nat) (row : List Vl) (w : World) (hk : Kids w ok a len cap l) (hlen2 : 2 ≤ len) (hr : RowIs w ra rlen rcap row) (ht : OpsTab w) :
    Calls Tryd.prog 38 #[.slice a len cap, .slice ra rlen rcap] w fun r w' => r = .returned (.agg #[.int .i64 (inV (evalE (l.getD 0 Ex.z) row) ((l.drop 1).map (evalE · row)) (tvV 0)).k, .int .i64 (inV (evalE (l.getD 0 Ex.z) row) ((l.drop 1).map (evalE · row)) (tvV 0)).n, .string (inV (evalE (l.getD 0 Ex.z) row) ((l.drop 1).map (evalE · row)) (tvV 0)).s]) ∧ Cls w w' := by
  have hlen := hk.len_eq
  have hle := hk.le
  have hmax := hk.max
  unfold maxLen at hmax
  obtain ⟨a0, len0, cap0, ⟨b, off, rfl, hb, hok, p0, p1, p2, p3, p4, p5⟩, f0, k0⟩ := hk.at_ (i := 0) (by omega)
  have C0 : Hid (∀ W, Below w.heap.size w W → Calls Tryd.prog 13 #[.agg #[.int .i64 (l.getD 0 Ex.z).op, .int .i64 (l.getD 0 Ex.z).ty, .int .i64 (l.getD 0 Ex.z).num, .string (l.getD 0 Ex.z).text, .int .i64 (l.getD 0 Ex.z).col, .slice a0 len0 cap0], .slice ra rlen rcap] W fun r w' => r = .returned (.agg #[.int .i64 (evalE (l.getD 0 Ex.z) row).k, .int .i64 (evalE (l.getD 0 Ex.z) row).n, .string (evalE (l.getD 0 Ex.z) row).s]) ∧ Cls W w') := Lib.hid (fun W hW => ih _ (getD_mem (by omega)) a0 len0 cap0 ok ra rlen rcap row W (k0.later hW) f0 (hr.later hW) (ht.later hW))
  simp only [Nat.zero_mul, Nat.add_zero] at p0 p1 p2 p3 p4 p5
  have hb1 : b < w.heap.size + 1 := by omega
  have HL := Lib.hid hlen
  have HR := Lib.hid hr
  have HK := Lib.hid hk
  have HI := Lib.hid ih
  have HT := Lib.hid ht
  clear hk hr ht k0 f0 ih hlen
  generalize evalE (l.getD 0 Ex.z) row = v0 at C0 ⊢
  generalize l.getD 0 Ex.z = e0 at *
  obtain ⟨X, hX⟩ : ∃ X, X = inV v0 ((l.drop 1).map (evalE · row)) (tvV 0) := ⟨_, rfl⟩
  rw [← hX]
  have HX := Lib.hid hX
  clear hX
  go_enter Tryd.func38, Tryd.ntmps38
  go_wp2_with (first | (go_at_call 13; ((with_reducible refine (C0.out _ ?_).mono ?_); (· (repeat first | with_reducible exact Below.refl _ _ | with_reducible assumption | with_reducible refine Below.setCell ?_ (by first | omega | (simp; done) | (simp; omega)) _ | with_reducible refine Below.alloc ?_ (by first | omega | (simp; done) | (simp; omega)) _ | with_reducible refine Below.drew ?_ | with_reducible refine Ext.on _ ?_ (by first | omega | (simp; done) | (simp; omega)))); rintro r _ ⟨rfl, y0, rfl⟩; skip)) | (go_at_call 80; first | ((with_reducible refine (Cls.call (Bool_calls _ _)).mono ?_); rintro r _ ⟨rfl, z0, rfl⟩) | ((with_reducible refine (Bool_calls _ _).mono ?_); rintro r _ ⟨rfl, z0, rfl⟩)))
  have wr0 := (y0.lts (b := w.heap.size) (by simp)).1
  have wb0 := (y0.lts (b := b) (by simp; omega)).1
  have wr1 := (z0.lts (b := w.heap.size) (by simp; omega)).1
  have wb1 := (z0.lts (b := b) (by simp; omega)).1
  have wy1 := (z0.lts (b := y0.val.heap.size) (by simp)).1
  go_loopw [18] (fun i wr => ∃ (j : Nat) (acc : Vl), Cls z0.val wr ∧ j ≤ len - 1 ∧ i = .int .i64 j ∧ z0.val.heap.size < wr.heap.size ∧ (wr.cell? ⟨z0.val.heap.size, 0, none⟩ = some (.int .i64 acc.k) ∧ wr.cell? ⟨z0.val.heap.size, 1, none⟩ = some (.int .i64 acc.n) ∧ wr.cell? ⟨z0.val.heap.size, 2, none⟩ = some (.string acc.s)) ∧ (wr.frozen? ⟨z0.val.heap.size, 0, none⟩ = false ∧ wr.frozen? ⟨z0.val.heap.size, 1, none⟩ = false ∧ wr.frozen? ⟨z0.val.heap.size, 2, none⟩ = false) ∧ X = inV v0 ((l.drop (j + 1)).map (evalE · row)) acc) (fun i _ => len - 1 - (intOf i).toNat)
  case atStart =>
    refine ⟨0, tvV 0, Cls.of ((Below.refl _ _).alloc (Nat.le_refl _) _), Nat.zero_le _, rfl, by simp, ⟨?_, ?_, ?_⟩, ⟨?_, ?_, ?_⟩, HX.out⟩
    all_goals simp [go_sem, tvV]
  case round =>
    obtain ⟨j, acc, ⟨x, rfl⟩, hj, rfl, hF, ⟨c0, c1, c2⟩, ⟨g0, g1, g2⟩, he⟩ := hrel
    have HE := Lib.hid he
    clear he
    have xr := (x.lts wr1).1
    have xb := (x.lts wb1).1
    have xy := (x.lts wy1).1
    by_cases hlt : j < len - 1
    · obtain ⟨aj, lenj, capj, ⟨b', off', ea, _, _, q0, q1, q2, q3, q4, q5⟩, fj, kj⟩ := HK.out.at_ (i := j + 1) (by omega)
      cases ea
      have eo : ∀ m, off + (j + 1) * 6 + m = off + 6 + j * 6 + m := fun m => by omega
      have eo0 : off + (j + 1) * 6 = off + 6 + j * 6 := by omega
      rw [eo] at q1 q2 q3 q4 q5
      rw [eo0] at q0
      have C1 : Hid (∀ W, Below w.heap.size w W → Calls Tryd.prog 13 #[.agg #[.int .i64 (l.getD (j + 1) Ex.z).op, .int .i64 (l.getD (j + 1) Ex.z).ty, .int .i64 (l.getD (j + 1) Ex.z).num, .string (l.getD (j + 1) Ex.z).text, .int .i64 (l.getD (j + 1) Ex.z).col, .slice aj lenj capj], .slice ra rlen rcap] W fun r w' => r = .returned (.agg #[.int .i64 (evalE (l.getD (j + 1) Ex.z) row).k, .int .i64 (evalE (l.getD (j + 1) Ex.z) row).n, .string (evalE (l.getD (j + 1) Ex.z) row).s]) ∧ Cls W w') := Lib.hid (fun W hW => HI.out _ (getD_mem (by have := HL.out; omega)) aj lenj capj ok ra rlen rcap row W (kj.later hW) fj (HR.out.later hW) (HT.out.later hW))
      have HD : Hid (inV v0 ((l.drop (j + 1)).map (evalE · row)) acc = inV v0 ((l.drop (j + 1 + 1)).map (evalE · row)) (orV acc v0 (evalE (l.getD (j + 1) Ex.z) row))) := Lib.hid (by rw [dropE (j := j + 1) (by have := HL.out; omega)]; rfl)
      clear eo eo0 fj kj
      generalize evalE (l.getD (j + 1) Ex.z) row = vj at C1 HD
      generalize l.getD (j + 1) Ex.z = ej at *
      go_wp2_with fail
      refine wp_region_ext_tail 7 (by kernel_rfl) (by kernel_rfl) ?_
      simp only [List.take_succ_cons, List.take_zero, List.drop_succ_cons, List.drop_zero]
      repeat (go_big_quiet_step (first | (go_at_call 13; exact Cls.call (C1.out _ (by repeat first | with_reducible exact Below.refl _ _ | with_reducible assumption | with_reducible refine Below.setCell ?_ (by first | omega | (simp; done) | (simp; omega)) _ | with_reducible refine Below.alloc ?_ (by first | omega | (simp; done) | (simp; omega)) _ | with_reducible refine Below.drew ?_ | with_reducible refine Ext.on _ ?_ (by first | omega | (simp; done) | (simp; omega))))) | (go_at_call 82; exact Cls.call (Equal_calls _ _ _ _ _ _ _)) | (go_at_call 81; exact Cls.call (Or_calls _ _ _ _ _ _ _))))
      refine wpQuiet_nil ?_
      rintro _ ⟨x2, rfl⟩
      have xF := (x2.lts (b := z0.val.heap.size) (by simp; omega)).1
      have k0 : (x2.val.cell? ⟨z0.val.heap.size, 0, none⟩).isSome = true := by rw [x2.cell 0 (by simp; omega)]; simp [go_sem, hF, c0]
      have h0 : x2.val.frozen? ⟨z0.val.heap.size, 0, none⟩ = false := by rw [x2.frozen 0 (by simp; omega)]; simp [go_sem, hF, g0]
      have k1 : (x2.val.cell? ⟨z0.val.heap.size, 1, none⟩).isSome = true := by rw [x2.cell 1 (by simp; omega)]; simp [go_sem, hF, c1]
      have h1 : x2.val.frozen? ⟨z0.val.heap.size, 1, none⟩ = false := by rw [x2.frozen 1 (by simp; omega)]; simp [go_sem, hF, g1]
      have k2 : (x2.val.cell? ⟨z0.val.heap.size, 2, none⟩).isSome = true := by rw [x2.cell 2 (by simp; omega)]; simp [go_sem, hF, c2]
      have h2 : x2.val.frozen? ⟨z0.val.heap.size, 2, none⟩ = false := by rw [x2.frozen 2 (by simp; omega)]; simp [go_sem, hF, g2]
      go_wp2_with fail
      go_roundw
      case rel =>
        refine ⟨j + 1, orV acc v0 vj, Cls.of ?_, by omega, by go_num, ?_, ⟨?_, ?_, ?_⟩, ⟨?_, ?_, ?_⟩, by rw [HE.out, HD.out]⟩
        · repeat first | with_reducible exact Below.refl _ _ | with_reducible assumption | with_reducible refine Below.setCell ?_ (by first | omega | (simp; done) | (simp; omega)) _ | with_reducible refine Below.alloc ?_ (by first | omega | (simp; done) | (simp; omega)) _ | with_reducible refine Below.drew ?_ | with_reducible refine Ext.on _ ?_ (by first | omega | (simp; done) | (simp; omega))
        all_goals simp [go_sem, orV, tvV, eqV, trV, xF, k0, k1, k2, h0, h1, h2]
      case measure => simp [intOf]; omega
    · have HT2 : Hid (X = acc) := Lib.hid (by rw [HE.out, List.drop_of_length_le (by have := HL.out; omega)]; rfl)
      have s0 : (x.val.cell? ⟨w.heap.size, 0, none⟩).isSome = true := by rw [x.cell 0 wr1, z0.cell 0 (by simp; omega)]; simp [go_sem, wr0]
      have s1 : (x.val.cell? ⟨w.heap.size, 1, none⟩).isSome = true := by rw [x.cell 1 wr1, z0.cell 1 (by simp; omega)]; simp [go_sem, wr0]
      have s2 : (x.val.cell? ⟨w.heap.size, 2, none⟩).isSome = true := by rw [x.cell 2 wr1, z0.cell 2 (by simp; omega)]; simp [go_sem, wr0]
      go_wp2_with fail
      refine ret_ex rfl ?_
      rw [HT2.out]
      simp [results, Tryd.results38, go_sem, s0, s1, s2]
      refine Cls.of ?_
      repeat first | with_reducible exact Below.refl _ _ | with_reducible assumption | with_reducible refine Below.setCell ?_ (by first | omega | (simp; done) | (simp; omega)) _ | with_reducible refine Below.alloc ?_ (by first | omega | (simp; done) | (simp; omega)) _ | with_reducible refine Below.drew ?_ | with_reducible refine Ext.on _ ?_ (by first | omega | (simp; done) | (simp; omega))
end Go.Proofs.YtpddkljedhghkaaDoor
