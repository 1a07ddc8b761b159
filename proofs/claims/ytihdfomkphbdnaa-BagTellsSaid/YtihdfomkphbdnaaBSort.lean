/-
  A list of rows sorted: slices.SortFunc with the comparison of rows, over a clone.
-/
import Derived.Test.YtihdfomkphbdnaaBIdx
import Derived.Test.YtihdfomkphbdnaaShelf
set_option linter.unusedVariables false
namespace Go.Proofs.Ytihdfomkphbdnaa
open Go Go.RowKit Go.Sort
section
variable {α : Type} [Inhabited α] (enc : α → Value)
theorem heap_put {w : World} {g n : Nat} {cur : Array Value} {e : TypeId} {fr : Nat × Nat} (d : Array α) (hb : w.heap[g]? = some (.cells cur e fr)) :
    (putRow enc (Sort.ahead w n) g 0 d).heap[g]? = some (.cells (putCells enc 0 d cur) e fr) := by
  simp [putRow, mapBlock, Sort.ahead, Array.getElem?_modify, hb, onCells]
theorem below_put {w : World} {base g n : Nat} (d : Array α) (hg : base ≤ g) : Below base w (putRow enc (Sort.ahead w n) g 0 d) := by
  refine ⟨rfl, rfl, rfl, by simp [putRow, mapBlock, Sort.ahead], fun k hk => ?_⟩
  have hne : g ≠ k := by omega
  simp [putRow, mapBlock, Sort.ahead, Array.getElem?_modify, hne]
theorem below_grow {base : Nat} {w w' : World} (h : Below base w w') (os : Array Obj) (hb : base ≤ w.heap.size) : Below base w (grow w' os) := by
  refine ⟨h.os, h.tape, h.output, Nat.le_trans h.size (by simp [grow]), fun k hk => ?_⟩
  rw [heap_grow_old _ _ (by have := h.size; omega)]
  exact h.block k hk
theorem below_sort {w : World} {base g n : Nat} (d : Array α) (os : Array Obj) (hg : base ≤ g) (hb : base ≤ w.heap.size) : Below base w (sortWorld enc w g 0 n d os) := below_grow (below_put enc d hg) os hb
theorem take_put (cur : Array Value) (ts : List α) (h : ts.length ≤ cur.size) : (putCells enc 0 ts.toArray cur).toList.take ts.length = ts.map enc := by
  apply List.ext_getElem?
  intro j
  by_cases hj : j < ts.length
  · rw [List.getElem?_take_of_lt hj, Array.getElem?_toList]
    simp [putCells, hj, show j < cur.size by omega]
  · rw [List.getElem?_take_eq_none (by omega), List.getElem?_eq_none (by simp; omega)]
theorem holds_put {w : World} {g : Nat} {cur : Array Value} {e : TypeId} {xs : List α} (hb : w.heap[g]? = some (.cells cur e (0, 0))) (ht : cur.toList.take xs.length = xs.map enc) : Go.Sort.Holds enc w g 0 xs.toArray := by
  intro j hj
  have hj' : j < xs.length := by simpa using hj
  refine ⟨?_, by simp [World.frozen?, hb]⟩
  have h1 : (cur.toList.take xs.length)[j]? = (xs.map enc)[j]? := by rw [ht]
  rw [List.getElem?_take_of_lt hj'] at h1
  simp only [World.cell?, hb, Nat.zero_add]
  simp only [Option.isSome_none, Bool.false_eq_true, if_false]
  rw [← Array.getElem?_toList, h1]
  simp [hj']
end
/-- A row that is as it should be in w. -/
abbrev OkR (w : World) := {r : Rw // r.Ok w}
instance (w : World) : Inhabited (OkR w) := ⟨⟨default, Rw.Ok.nil w⟩⟩
def encO {w : World} (x : OkR w) : Value := x.val.enc
def cfO {w : World} (x y : OkR w) : Int := cmpL x.val.vs y.val.vs
theorem ltO {w : World} (x y : OkR w) : ltOf cfO x y = decide (cmpL x.val.vs y.val.vs < 0) := rfl
theorem swoO (w : World) : SWO (ltOf (cfO (w := w))) where
  irrefl x := by rw [ltO, cmpL_self]; rfl
  trans x y z h1 h2 := by
    rw [ltO] at *
    have a1 := of_decide_eq_true h1
    have a2 := of_decide_eq_true h2
    exact decide_eq_true (cmpL_lt_le a1 (Int.le_of_lt a2))
  ntrans x y z h1 h2 := by
    rw [ltO] at *
    have a1 := of_decide_eq_false h1
    have a2 := of_decide_eq_false h2
    have n1 := cmpL_neg x.val.vs y.val.vs
    have n2 := cmpL_neg y.val.vs z.val.vs
    have n3 := cmpL_neg x.val.vs z.val.vs
    have := cmpL_trans (l := z.val.vs) (m := y.val.vs) (k := x.val.vs) (by omega) (by omega)
    exact decide_eq_false (by omega)
theorem lift_ok {w : World} : ∀ {l : List Rw}, (∀ r ∈ l, r.Ok w) → ∃ l2 : List (OkR w), l2.map (·.val) = l
  | [], _ => ⟨[], rfl⟩
  | r :: l, h => by
    obtain ⟨l2, e⟩ := lift_ok (l := l) (fun s hs => h s (List.mem_cons_of_mem _ hs))
    exact ⟨⟨r, h r (by simp)⟩ :: l2, by simp [e]⟩
theorem perm_of_in {α : Type} [Inhabited α] {d d' : Array α} (h : PermIn 0 d.size d d') : d'.toList.Perm d.toList := by
  obtain ⟨h1, _, h3⟩ := h
  have e1 : d'.extract 0 d.size = d' := by rw [← h1]; simp
  have e2 : d.extract 0 d.size = d := by simp
  rwa [e1, e2] at h3
set_option maxHeartbeats 1000000 in
theorem SortFunc_own (base : Nat) (v : Value) (l : List Rw) (w0 w : World) (hok : ∀ r ∈ l, r.Ok w0) (hb0 : Below w0.heap.size w0 w) (hbase : w0.heap.size ≤ base) (h : w.ownsRow base 24 1 v l.length (flatR l)) (hl : l.length ≤ 10000) :
    Calls Try.prog 51 #[v, .func (.func 49) #[] #[]] w fun r w' => r = .returned (.tuple #[]) ∧ ∃ l', w'.ownsRow base 24 1 v l.length (flatR l') ∧ (vss l').Perm (vss l) ∧ Asc (vss l') ∧ (∀ r ∈ l', r.Ok w0) ∧ l'.length = l.length ∧ Below base w w' := by
  rcases h.2 with ⟨rfl, h0⟩ | ⟨g, cap, cur, rfl, hb, hh, hn, hc, hr, ht⟩
  · obtain rfl : l = [] := List.eq_nil_of_length_eq_zero h0
    refine (Try.slices_SortFunc_none (α := Unit) none 0 _ w).mono fun r w' ⟨hr, hw⟩ => ?_
    subst hr hw
    exact ⟨rfl, [], h, List.Perm.refl _, List.Pairwise.nil, (fun r hr => by cases hr), rfl, Below.refl _ _⟩
  · have hlt := (Array.getElem?_eq_some_iff.1 hh).1
    rw [Nat.mul_one] at ht hr
    obtain ⟨l2, e2⟩ := lift_ok hok
    have hlen : l2.length = l.length := by rw [← e2, List.length_map]
    have hf : flatR l = l2.map encO := by rw [← e2]; simp [flatR, encO]
    rw [hf, ← hlen] at ht
    have eg : ∀ args w, (callFunc 49 args).run Try.prog w = .ok (.enter 49 args) w := enters_of Try.func49 (by kernel_rfl) rfl
    have hcmp : CmpLays1 Try.prog 49 #[] encO cfO g 0 l2.toArray.size w := fun m os dk _ x y => by
      have hB : Below w0.heap.size w0 (sortWorld encO w g 0 m dk os) := hb0.trans (below_sort encO dk os (by omega) hb0.size)
      have ox := x.2.later hB
      have oy := y.2.later hB
      exact (CompareRows_D _ _ _ _ _ _ _ _ _ ox.holds oy.holds ox.le oy.le ox.cap oy.cap).mono fun _ _ ⟨he, hd⟩ => ⟨he, hd.grown⟩
    have hs : l2.toArray.size = l.length := by simpa using hlen
    have hcon := Try.slices_SortFunc encO (fun _ => rfl) cfO (swoO w0) 49 #[] g 0 cap l2.toArray w eg hcmp (holds_put encO hh ht) hlt (by omega)
    rw [hs] at hcon
    refine hcon.mono fun r w' ⟨hr', d', n, os, hp, hso, hw⟩ => ?_
    subst hr' hw
    have hp2 : d'.toList.Perm l2 := by
      have := perm_of_in (by rw [hs]; exact hp)
      simpa using this
    have hd : d'.toList.length = l.length := by rw [hp2.length_eq, hlen]
    refine ⟨rfl, d'.toList.map (·.val), ?_, ?_, ?_, ?_, by simpa using hd, below_sort encO d' os hb (by omega)⟩
    · refine ⟨by simp [flatR]; simpa using hd, .inr ⟨g, cap, putCells encO 0 d' cur, rfl, hb, ?_, hn, hc, by simp [putCells, hr], ?_⟩⟩
      · show (grow _ _).heap[g]? = _
        rw [heap_grow_old _ _ (by simpa [putRow, mapBlock, Sort.ahead] using hlt)]
        exact heap_put encO d' hh
      · have := take_put encO cur d'.toList (by rw [hd]; omega)
        rw [hd] at this
        rw [Nat.mul_one]
        rw [Array.toArray_toList] at this
        rw [this]
        simp [flatR, encO]
    · have := hp2.map (fun x : OkR w0 => x.val.vs)
      rw [← e2]
      simpa [vss, Function.comp_def] using this
    · unfold Asc vss
      rw [List.map_map, List.pairwise_map, List.pairwise_iff_getElem]
      intro i j hi hj hij
      have := hso i j (Nat.zero_le _) hij (by rw [← hd]; exact hj)
      rw [ltO] at this
      have h1 := of_decide_eq_false this
      have hi' : i < d'.size := by simpa using hi
      have hj' : j < d'.size := by simpa using hj
      rw [getElem!_pos d' i hi', getElem!_pos d' j hj'] at h1
      have := cmpL_neg d'[j].val.vs d'[i].val.vs
      show cmpL d'.toList[i].val.vs d'.toList[j].val.vs ≤ 0
      rw [Array.getElem_toList, Array.getElem_toList]
      omega
    · intro r hr
      obtain ⟨x, _, rfl⟩ := List.mem_map.1 hr
      exact x.2
set_option maxHeartbeats 1000000 in
theorem ascending_calls (a : Option Addr) (n c : Nat) (l : List Rw) (w : World) (h : Rws w a n l) (hn : n ≤ 10000) :
    Calls Try.prog 44 #[.slice a n c] w fun e w' => ∃ a' c' l', e = .returned (.slice a' n c') ∧ Rws w' a' n l' ∧ n ≤ c' ∧ c' ≤ maxLen ∧ (vss l').Perm (vss l) ∧ Asc (vss l') ∧ ((a' = none ∧ c' = 0) ∨ ∃ b off, a' = some ⟨b, off, none⟩) ∧ Below w.heap.size w w' := by
  have C1 := Lib.hid (CloneRows_calls a n c l w h hn)
  have hln := h.ln
  have C2 : Hid (∀ v W, Below w.heap.size w W → W.ownsRow w.heap.size 24 1 v n (flatR l) → Calls Try.prog 51 #[v, .func (.func 49) #[] #[]] W fun r w' => r = .returned (.tuple #[]) ∧ ∃ l', w'.ownsRow w.heap.size 24 1 v n (flatR l') ∧ (vss l').Perm (vss l) ∧ Asc (vss l') ∧ (∀ r ∈ l', r.Ok w) ∧ l'.length = n ∧ Below w.heap.size W w') := Lib.hid (fun v W hW ho => by
    have := SortFunc_own w.heap.size v l w W h.ok hW (Nat.le_refl _) (by rw [hln]; exact ho) (by omega)
    rw [hln] at this
    exact this)
  clear h hln
  go_enter Try.func44, Try.ntmps44
  go_wp2_with (go_at_call 50; ((with_reducible refine C1.out.mono ?_); rintro e w1 ⟨v, rfl, ho, hb1⟩; have HO := Lib.hid ho; have HB := Lib.hid hb1; clear ho hb1))
  go_wp2_with (go_at_call 51; ((with_reducible refine (C2.out _ _ HB.out HO.out).mono ?_); rintro e w2 ⟨rfl, hx⟩; have HX := Lib.hid hx; clear hx))
  go_ret
  obtain ⟨l', ho, hp, hs, hk, hl, hb2⟩ := HX.out
  have hall := HB.out.trans hb2
  have hd : ∃ a' c', v = .slice a' n c' ∧ ((a' = none ∧ c' = 0) ∨ ∃ b off, a' = some ⟨b, off, none⟩) := by
    rcases ho.2 with ⟨rfl, h0⟩ | ⟨g, cap, cur, rfl, _⟩
    · exact ⟨none, 0, by rw [h0], .inl ⟨rfl, rfl⟩⟩
    · exact ⟨_, _, rfl, .inr ⟨g, 0, rfl⟩⟩
  obtain ⟨a', c', rfl, h1, h2, h3⟩ := Rws.own ho (fun r hr => (hk r hr).later hall)
  obtain ⟨a2, c2, e2, hd2⟩ := hd
  simp only [Value.slice.injEq, true_and] at e2
  obtain ⟨rfl, rfl⟩ := e2
  exact ⟨a', c', l', rfl, h3, h1, h2, hp, hs, hd2, hall⟩
end Go.Proofs.Ytihdfomkphbdnaa
