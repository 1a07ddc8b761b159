/-
  All tables with what is wrong with single rows.
-/
import Derived.Test.YtdmhmlnfoocnjaaGreatDoorK38
import Derived.Test.YtdmhmlnfoocnjaaGreatDoorK40
import Derived.Test.YtdmhmlnfoocnjaaGreatDoorK39
set_option linter.unusedVariables false
namespace Go.Proofs.YtdmhmlnfoocnjaaGreatDoor
open Go Go.RowKit Go.Deep
def xC (t : Tb) (rs : Sl) (v : Value) (fit : Bool) : List Value := [.string t.name, .slice t.cs.a t.cs.len t.cs.cap, .slice t.ps.a t.ps.len t.ps.cap, .slice t.us.a t.us.len t.us.cap, .slice t.fs.a t.fs.len t.fs.cap, .slice t.ks.a t.ks.len t.ks.cap, .slice rs.a rs.len rs.cap, v, .bool fit]
theorem infoX : (Tryz.prog.info? 98).map (fun i => (i.zero, i.size, i.bytes)) = some (some (.agg #[.string ⟨#[]⟩, .slice none 0 0, .slice none 0 0, .slice none 0 0, .slice none 0 0, .slice none 0 0, .slice none 0 0, .slice none 0 0, .bool false]), 9, 192) := by kernel_rfl
theorem catN_len9 {c : Nat → List Value} (h : ∀ i, (c i).length = 9) : ∀ n, (catN c n).length = n * 9
  | 0 => rfl
  | n + 1 => by rw [catN_next, List.length_append, catN_len9 h n, h]; omega
theorem catN_at9 {c : Nat → List Value} (h : ∀ i, (c i).length = 9) : ∀ (n i j : Nat), i < n → j < 9 → (catN c n)[i * 9 + j]? = (c i)[j]?
  | 0, i, j, hi, hj => absurd hi (Nat.not_lt_zero _)
  | n + 1, i, j, hi, hj => by
    rw [catN_next]
    rcases Nat.lt_succ_iff_lt_or_eq.1 hi with h1 | rfl
    · rw [List.getElem?_append_left (by rw [catN_len9 h]; omega)]
      exact catN_at9 h n i j h1 hj
    · rw [List.getElem?_append_right (by rw [catN_len9 h]; omega), catN_len9 h, show i * 9 + j - i * 9 = j from by omega]
theorem slAt_own9 {w : World} {base n : Nat} {e : TypeId} {v : Value} {c : Nat → List Value} (hc : ∀ i, (c i).length = 9) (h : w.ownsRow base e 9 v n (catN c n)) : ∃ s : Sl, v = .slice s.a s.len s.cap ∧ s.len = n ∧ SlAt w 9 s c := by
  rcases h.2 with ⟨rfl, h0⟩ | ⟨g, cap, cur, rfl, hb, hh, hn, hcm, hs, ht⟩
  · exact ⟨Sl.z, rfl, h0.symm, Nat.le_refl _, Nat.zero_le _, fun _ => ⟨rfl, rfl⟩, fun i hi => absurd hi (Nat.not_lt_zero _)⟩
  · refine ⟨⟨some ⟨g, 0, none⟩, n, cap⟩, rfl, rfl, hn, hcm, (fun h => by cases h), fun i hi => ⟨g, 0, rfl, (Array.getElem?_eq_some_iff.1 hh).1, fun j hj => ?_⟩⟩
    have hi2 : i < n := hi
    rw [Nat.zero_add, World.ownsRow.cellAt h (i * 9 + j) (by omega), catN_at9 hc n i j hi2 hj]
theorem two_z {W : World} {b : Nat} {a0 a1 : Value} {t : TypeId} (h : W.heap[b]? = some (.cells #[a0, a1] t)) : b < W.heap.size ∧ W.frozen? ⟨b, 0, none⟩ = false ∧ W.frozen? ⟨b, 1, none⟩ = false ∧ W.cell? ⟨b, 0, none⟩ = some a0 ∧ W.cell? ⟨b, 1, none⟩ = some a1 := by
  refine ⟨(Array.getElem?_eq_some_iff.1 h).1, free_z h _, free_z h _, ?_, ?_⟩
  all_goals
    rw [cell_of_row _ _ _ _ _ (0, 0) h]
    rfl
theorem own_apart {w : World} {b1 b2 s1 s2 n1 n2 : Nat} {e1 e2 : TypeId} {v1 v2 : Value} {x1 x2 : List Value} (h1 : w.ownsRow b1 e1 s1 v1 n1 x1) (h2 : w.ownsRow b2 e2 s2 v2 n2 x2) (he : e1 ≠ e2) : v1.ownBlock = none ∨ v1.ownBlock ≠ v2.ownBlock := by
  rcases h1.2 with ⟨rfl, _⟩ | ⟨g, cap, cur, rfl, _, hh, _⟩
  · exact .inl rfl
  · right
    rcases h2.2 with ⟨rfl, _⟩ | ⟨g2, cap2, cur2, rfl, _, hh2, _⟩
    · intro e; cases e
    · intro e
      have e3 : g = g2 := by simpa [Value.ownBlock] using e
      subst e3
      rw [hh] at hh2
      simp only [Option.some.injEq, Obj.cells.injEq] at hh2
      exact he hh2.2.1
def blkOf (v : Value) (n : Nat) : Nat := (v.ownBlock).getD n
theorem tp_grow {a w w' : World} {v : Value} {n : Nat} (h : Tp (blkOf v n) a w) (hg : w.grownBy w' v.ownBlock) : Tp (blkOf v n) a w' :=
  ⟨hg.os.trans h.os, hg.tape.trans h.tape, hg.output.trans h.output, Nat.le_trans h.size hg.size, fun k hk hT => (hg.block k (Nat.lt_of_lt_of_le hk h.size) (fun e => hT (by unfold blkOf; rw [← e]; rfl))).trans (h.block k hk hT)⟩
theorem blk_off {w : World} {base size n m : Nat} {e : TypeId} {v : Value} {xs : List Value} (h : w.ownsRow base e size v n xs) (k : Nat) (hk : k < base) (hm : k < m) : k ≠ blkOf v m := by
  unfold blkOf
  rcases hv : v.ownBlock with _ | g
  · show k ≠ m
    omega
  · have := (h.lt g hv).1
    show k ≠ g
    omega
theorem blk_off_ty {w : World} {base size n m : Nat} {e t : TypeId} {v : Value} {xs : List Value} {cs : Array Value} (h : w.ownsRow base e size v n xs) (k : Nat) (hb : w.heap[k]? = some (.cells cs t)) (ht : t ≠ e) (hm : k < m) : k ≠ blkOf v m := by
  unfold blkOf
  rcases hv : v.ownBlock with _ | g
  · show k ≠ m
    omega
  · exact (own_ne_z h hb ht g hv).symm
structure DbAt (w : World) (base : Nat) (tb : Nat → Tb) (t : Nat → Sl) (r : Nat → Nat → Sl) (f : Nat → Nat → Nat → Vl) (iv : Nat → Value) (n : Nat) : Prop where
  own : ∀ k, k < n → OwnO w base (iv k) (rowsO (tb k) (r k) (f k) (t k).len)
  sep : ∀ k k', k < n → k' < n → k ≠ k' → ∀ g, (iv k).ownBlock = some g → (iv k').ownBlock ≠ some g
def xCs (tb : Nat → Tb) (t : Nat → Sl) (r : Nat → Nat → Sl) (f : Nat → Nat → Nat → Vl) (iv : Nat → Value) (k : Nat) : List Value := xC (tb k) (t k) (iv k) (fitT tb t r f k)
theorem DbAt.grown {w w' : World} {base n : Nat} {tb : Nat → Tb} {t : Nat → Sl} {r : Nat → Nat → Sl} {f : Nat → Nat → Nat → Vl} {iv : Nat → Value} {row : Option Nat} (h : DbAt w base tb t r f iv n) (hg : w.grownBy w' row) (hne : ∀ k, k < n → (iv k).ownBlock = none ∨ (iv k).ownBlock ≠ row) : DbAt w' base tb t r f iv n :=
  ⟨fun k hk => (h.own k hk).kept hg (hne k hk), h.sep⟩
theorem DbAt.later {w w' : World} {base n : Nat} {tb : Nat → Tb} {t : Nat → Sl} {r : Nat → Nat → Sl} {f : Nat → Nat → Nat → Vl} {iv : Nat → Value} (h : DbAt w base tb t r f iv n) (hb : Below w.heap.size w w') : DbAt w' base tb t r f iv n := ⟨fun k hk => (h.own k hk).later hb, h.sep⟩
theorem DbAt.setCell {w : World} {base n : Nat} {tb : Nat → Tb} {t : Nat → Sl} {r : Nat → Nat → Sl} {f : Nat → Nat → Nat → Vl} {iv : Nat → Value} (h : DbAt w base tb t r f iv n) (p : Addr) (hp : p.block < base) (u : Value) : DbAt (w.setCell p u) base tb t r f iv n := ⟨fun k hk => (h.own k hk).setCell p hp u, h.sep⟩
def ivP (iv : Nat → Value) (j : Nat) (v : Value) (k : Nat) : Value := if k = j then v else iv k
theorem ivP_at (iv : Nat → Value) (j : Nat) (v : Value) : ivP iv j v j = v := if_pos rfl
theorem ivP_ne (iv : Nat → Value) {j k : Nat} (v : Value) (h : k ≠ j) : ivP iv j v k = iv k := if_neg h
theorem DbAt.snoc {w : World} {base j X : Nat} {tb : Nat → Tb} {t : Nat → Sl} {r : Nat → Nat → Sl} {f : Nat → Nat → Nat → Vl} {iv : Nat → Value} {v : Value} (h : DbAt w base tb t r f iv j) (hv : OwnO w base v (rowsO (tb j) (r j) (f j) (t j).len)) (hlo : ∀ k g, k < j → (iv k).ownBlock = some g → g < X) (hhi : ∀ g, v.ownBlock = some g → X ≤ g) : DbAt w base tb t r f (ivP iv j v) (j + 1) := by
  refine ⟨fun k hk => ?_, fun k k' hk hk' hne g hg => ?_⟩
  · rcases Nat.lt_succ_iff_lt_or_eq.1 hk with h1 | rfl
    · rw [ivP_ne iv v (by omega)]; exact h.own k h1
    · rw [ivP_at]; exact hv
  · rcases Nat.lt_succ_iff_lt_or_eq.1 hk with h1 | rfl
    · rw [ivP_ne iv v (by omega)] at hg
      rcases Nat.lt_succ_iff_lt_or_eq.1 hk' with h2 | rfl
      · rw [ivP_ne iv v (by omega)]; exact h.sep k k' h1 h2 hne g hg
      · rw [ivP_at]
        intro e
        have := hhi g e
        have := hlo k g h1 hg
        omega
    · rw [ivP_at] at hg
      rcases Nat.lt_succ_iff_lt_or_eq.1 hk' with h2 | rfl
      · rw [ivP_ne iv v (by omega)]
        intro e
        have := hhi g hg
        have := hlo k' g h2 e
        omega
      · exact absurd rfl hne
theorem xCs_snoc (tb : Nat → Tb) (t : Nat → Sl) (r : Nat → Nat → Sl) (f : Nat → Nat → Nat → Vl) (iv : Nat → Value) (j : Nat) (v : Value) : catN (xCs tb t r f (ivP iv j v)) (j + 1) = catN (xCs tb t r f iv) j ++ xC (tb j) (t j) v (fitT tb t r f j) := by
  rw [catN_next]
  congr 1
  · exact catN_congr fun i hi => by unfold xCs; rw [ivP_ne iv v (by omega)]
  · unfold xCs; rw [ivP_at]
theorem xCs_len (tb : Nat → Tb) (t : Nat → Sl) (r : Nat → Nat → Sl) (f : Nat → Nat → Nat → Vl) (iv : Nat → Value) (i : Nat) : (xCs tb t r f iv i).length = 9 := rfl
theorem own_setCellR {w : World} {base size n : Nat} {e : TypeId} {v : Value} {xs : List Value} (h : w.ownsRow base e size v n xs) (p : Addr) (hp : p.block < base) (u : Value) : (w.setCell p u).ownsRow base e size v n xs :=
  World.ownsRow.kept h (row := some p.block) ⟨rfl, rfl, rfl, by simp [World.setCell], fun k _ hk => heap_setCell_other w p k u (fun e => hk (by simp [e]))⟩ (by
    rcases hb : v.ownBlock with _ | g
    · exact .inl rfl
    · refine .inr fun e => ?_
      have := (h.lt g hb).1
      have e2 := Option.some.inj e
      omega)
theorem own_sliceR {w : World} {base size n : Nat} {e : TypeId} {v : Value} {xs : List Value} (h : w.ownsRow base e size v n xs) : ∃ a n c, v = .slice a n c := by
  rcases h.2 with ⟨rfl, _⟩ | ⟨g, cap, cur, rfl, _⟩
  · exact ⟨_, _, _, rfl⟩
  · exact ⟨_, _, _, rfl⟩
theorem xC_one {t : Tb} {rs : Sl} {v : Value} {fit : Bool} (h : v.oneCell' = true) : ∀ u ∈ xC t rs v fit, u.oneCell' = true := by
  intro u hu
  simp only [xC, List.mem_cons, List.not_mem_nil, or_false] at hu
  rcases hu with rfl | rfl | rfl | rfl | rfl | rfl | rfl | rfl | rfl <;> first | rfl | exact h
theorem own_one' {w : World} {base : Nat} {v : Value} {L : List Vio} (h : OwnO w base v L) : v.oneCell' = true := by
  obtain ⟨a, n, c, rfl⟩ := h.slice
  rfl
set_option maxHeartbeats 16000000 in
set_option maxRecDepth 20000 in
theorem examined_calls (sl : Sl) (tb : Nat → Tb) (s : Sl) (t : Nat → Sl) (r : Nat → Nat → Sl) (f : Nat → Nat → Nat → Vl) (w : World) (h : TabsAt w sl tb) (hi : InsAt w s t r f) (hn : s.len = sl.len) (h6 : sl.len ≤ 6) (h8 : ∀ k, k < sl.len → (tb k).cs.len ≤ 8) (hs : ∀ k, k < sl.len → (t k).len ≤ 10000) :
    Calls Tryz.prog 28 #[.agg #[.slice sl.a sl.len sl.cap], .agg #[.slice s.a s.len s.cap]] w fun e w' => ∃ (ds : Sl) (iv : Nat → Value), e = .returned (.agg #[.slice sl.a sl.len sl.cap, .slice ds.a ds.len ds.cap]) ∧ ds.len = sl.len ∧ SlAt w' 9 ds (xCs tb t r f iv) ∧ DbAt w' (w.heap.size + 4) tb t r f iv sl.len ∧ (∀ k, k < sl.len → ∀ b off, ds.a = some ⟨b, off, none⟩ → (iv k).ownBlock ≠ some b) ∧ Cls w w' := by
  obtain ⟨i0, hi0, hz0, hz1, hz2⟩ := info_parts infoX
  have hle := h.1.1
  have hmax := h.1.2.1
  have hle2 := hi.tabs.1
  have hmax2 := hi.tabs.2.1
  unfold maxLen at hmax hmax2
  have HRW := Lib.hid h.1.2.2.2
  have HIW := Lib.hid hi.tabs.2.2.2
  have CT : Hid (∀ j, j < sl.len → ∀ W, Below w.heap.size w W → Calls Tryz.prog 49 #[.agg #[.string (tb j).name, .slice (tb j).cs.a (tb j).cs.len (tb j).cs.cap, .slice (tb j).ps.a (tb j).ps.len (tb j).ps.cap, .slice (tb j).us.a (tb j).us.len (tb j).us.cap, .slice (tb j).fs.a (tb j).fs.len (tb j).fs.cap, .slice (tb j).ks.a (tb j).ks.len (tb j).ks.cap], .slice (t j).a (t j).len (t j).cap] W fun e w' => ∃ v, e = .returned (.agg #[.string (tb j).name, .slice (tb j).cs.a (tb j).cs.len (tb j).cs.cap, .slice (tb j).ps.a (tb j).ps.len (tb j).ps.cap, .slice (tb j).us.a (tb j).us.len (tb j).us.cap, .slice (tb j).fs.a (tb j).fs.len (tb j).fs.cap, .slice (tb j).ks.a (tb j).ks.len (tb j).ks.cap, .slice (t j).a (t j).len (t j).cap, v, .bool (fitT tb t r f j)]) ∧ OwnO w' (W.heap.size + 2) v (rowsO (tb j) (r j) (f j) (t j).len) ∧ Cls W w') := Lib.hid fun j hj W hW => examinedTable_calls (tb j) (t j) (r j) (f j) W ((h.2 j hj).later hW) ((hi.rws j (by omega)).later hW) (h8 j hj) (hs j hj)
  clear h hi h8 hs
  obtain ⟨la, ln, lc⟩ := sl
  obtain ⟨sa, sn, sc⟩ := s
  simp only at hle hmax hle2 hmax2 HRW HIW CT hn h6 ⊢
  subst hn
  have hbl0 : ((((w.alloc (.cells #[.slice la sn lc] 28)).alloc (.cells #[.slice sa sn sc] 32)).alloc (.cells #[.slice none 0 0, .slice none 0 0] 70)).alloc (.cells #[.slice la sn lc, .slice none 0 0] 70)).heap[w.heap.size]? = some (.cells #[.slice la sn lc] 28) := by
    rw [Below.heap_alloc _ _ _ (by first | (simp; done) | (simp; omega)), Below.heap_alloc _ _ _ (by first | (simp; done) | (simp; omega)), Below.heap_alloc _ _ _ (by simp)]
    exact heap_alloc_new w _
  have hbl1 : ((((w.alloc (.cells #[.slice la sn lc] 28)).alloc (.cells #[.slice sa sn sc] 32)).alloc (.cells #[.slice none 0 0, .slice none 0 0] 70)).alloc (.cells #[.slice la sn lc, .slice none 0 0] 70)).heap[w.heap.size + 1]? = some (.cells #[.slice sa sn sc] 32) := by
    rw [Below.heap_alloc _ _ _ (by first | (simp; done) | (simp; omega)), Below.heap_alloc _ _ _ (by simp)]
    have := heap_alloc_new (w.alloc (.cells #[.slice la sn lc] 28)) (.cells #[.slice sa sn sc] 32)
    simpa using this
  have hbl2 : ((((w.alloc (.cells #[.slice la sn lc] 28)).alloc (.cells #[.slice sa sn sc] 32)).alloc (.cells #[.slice none 0 0, .slice none 0 0] 70)).alloc (.cells #[.slice la sn lc, .slice none 0 0] 70)).heap[w.heap.size + 1 + 1]? = some (.cells #[.slice none 0 0, .slice none 0 0] 70) := by
    rw [Below.heap_alloc _ _ _ (by simp)]
    have := heap_alloc_new ((w.alloc (.cells #[.slice la sn lc] 28)).alloc (.cells #[.slice sa sn sc] 32)) (.cells #[.slice none 0 0, .slice none 0 0] 70)
    simpa using this
  have hbl3 : ((((w.alloc (.cells #[.slice la sn lc] 28)).alloc (.cells #[.slice sa sn sc] 32)).alloc (.cells #[.slice none 0 0, .slice none 0 0] 70)).alloc (.cells #[.slice la sn lc, .slice none 0 0] 70)).heap[w.heap.size + 1 + 1 + 1]? = some (.cells #[.slice la sn lc, .slice none 0 0] 70) := by
    have := heap_alloc_new (((w.alloc (.cells #[.slice la sn lc] 28)).alloc (.cells #[.slice sa sn sc] 32)).alloc (.cells #[.slice none 0 0, .slice none 0 0] 70)) (.cells #[.slice la sn lc, .slice none 0 0] 70)
    simpa using this
  have HL0 := Lib.hid hbl0
  have HL1 := Lib.hid hbl1
  have HL2 := Lib.hid hbl2
  have HL3 := Lib.hid hbl3
  have HB0 : Hid (Below w.heap.size w ((((w.alloc (.cells #[.slice la sn lc] 28)).alloc (.cells #[.slice sa sn sc] 32)).alloc (.cells #[.slice none 0 0, .slice none 0 0] 70)).alloc (.cells #[.slice la sn lc, .slice none 0 0] 70))) := Lib.hid (by repeat first|with_reducible exact Below.refl _ _|with_reducible refine Below.setCell ?_ (by first|omega|(simp;done)|(simp;omega)) _|with_reducible refine Below.alloc ?_ (by first|omega|(simp;done)|(simp;omega)) _|with_reducible refine Below.drew ?_|with_reducible refine Ext.on _ ?_ (by first|omega|(simp;done)|(simp;omega)))
  have h0s : ((((w.alloc (.cells #[.slice la sn lc] 28)).alloc (.cells #[.slice sa sn sc] 32)).alloc (.cells #[.slice none 0 0, .slice none 0 0] 70)).alloc (.cells #[.slice la sn lc, .slice none 0 0] 70)).heap.size = w.heap.size + 4 := by simp
  clear hbl0 hbl1 hbl2 hbl3
  go_enter Tryz.func28, Tryz.ntmps28
  go_wp2_with fail
  have hsl : ∀ j, j < sn → ∃ b off, la = some ⟨b, off, none⟩ := fun j hj => by
    obtain ⟨b, off, ha, _⟩ := HRW.out j hj
    exact ⟨b, off, ha⟩
  generalize ((((w.alloc (.cells #[.slice la sn lc] 28)).alloc (.cells #[.slice sa sn sc] 32)).alloc (.cells #[.slice none 0 0, .slice none 0 0] 70)).alloc (.cells #[.slice la sn lc, .slice none 0 0] 70)) = W0 at *
  clear hsl
  go_loopw [13] (fun i wr => ∃ (j : Nat) (u : Value) (iv : Nat → Value), j ≤ sn ∧ i = .int .i64 j ∧ wr.heap[w.heap.size + 1 + 1 + 1]? = some (.cells #[.slice la sn lc, u] 70) ∧ wr.ownsRow (w.heap.size + 4) 98 9 u j (catN (xCs tb t r f iv) j) ∧ DbAt wr (w.heap.size + 4) tb t r f iv j ∧ Below (w.heap.size + 3) W0 wr) (fun i _ => sn - (intOf i).toNat)
  case atStart => exact ⟨0, _, fun _ => .slice none 0 0, Nat.zero_le _, rfl, HL3.out, World.ownsRow_nil _ _ _ 9, ⟨fun k hk => absurd hk (Nat.not_lt_zero _), fun k k' hk => absurd hk (Nat.not_lt_zero _)⟩, Below.refl _ _⟩
  case round =>
    obtain ⟨j, u, iv, hj, rfl, hdb, hown, hda, hbw⟩ := hrel
    have HD := Lib.hid hdb
    have HO := Lib.hid hown
    have HA := Lib.hid hda
    have HW := Lib.hid hbw
    have hws := hbw.size
    have HT0 := Lib.hid ((hbw.block _ (by omega)).trans HL0.out)
    have HT1 := Lib.hid ((hbw.block _ (by omega)).trans HL1.out)
    have HT2 := Lib.hid ((hbw.block _ (by omega)).trans HL2.out)
    have HBX : Hid (Below w.heap.size w wr) := Lib.hid (HB0.out.trans (hbw.mono (by omega)))
    clear hdb hown hda hbw HL0 HL1 HL2 HL3 HB0
    obtain ⟨d0, df0, df1, dc0, dc1⟩ := two_z HD.out
    obtain ⟨e0, _, ec0⟩ := one_z HT0.out
    obtain ⟨g0, _, gc0⟩ := one_z HT1.out
    by_cases hlt : j < sn
    · obtain ⟨b, off, ha, hb, hcc⟩ := HRW.out j hlt
      subst ha
      obtain ⟨ib, ioff, hia, hib, hic⟩ := HIW.out j hlt
      subst hia
      have q0 := hcc 0 (by omega)
      have q1 := hcc 1 (by omega)
      have q2 := hcc 2 (by omega)
      have q3 := hcc 3 (by omega)
      have q4 := hcc 4 (by omega)
      have q5 := hcc 5 (by omega)
      simp only [Tb.cells, Sl.v, List.getElem?_cons_zero, List.getElem?_cons_succ, Nat.add_zero] at q0 q1 q2 q3 q4 q5
      rw [← HBX.out.cell (p := ⟨b, _, none⟩) hb] at q0 q1 q2 q3 q4 q5
      have hb3 : b < wr.heap.size := by omega
      have p0 := hic 0 (by omega)
      simp only [Sl.v, List.getElem?_cons_zero, Nat.add_zero, Nat.mul_one] at p0
      have D1 := Lib.hid (CT.out j hlt)
      clear hcc hic
      generalize hro : rowsO (tb j) (r j) (f j) (t j).len = R at *
      have HRO := Lib.hid hro
      generalize hfb : fitT tb t r f j = fb at *
      have HFB := Lib.hid hfb
      generalize htt : tb j = tt at *
      have HTT := Lib.hid htt
      generalize hu : t j = uu at *
      have HUU := Lib.hid hu
      clear hro hfb htt hu
      obtain ⟨ua, un, uc⟩ := uu
      simp only at p0 D1
      have HBN : Hid ((wr.alloc (.cells #[.string tt.name, .slice tt.cs.a tt.cs.len tt.cs.cap, .slice tt.ps.a tt.ps.len tt.ps.cap, .slice tt.us.a tt.us.len tt.us.cap, .slice tt.fs.a tt.fs.len tt.fs.cap, .slice tt.ks.a tt.ks.len tt.ks.cap] 55)).heap[wr.heap.size]? = some (.cells #[.string tt.name, .slice tt.cs.a tt.cs.len tt.cs.cap, .slice tt.ps.a tt.ps.len tt.ps.cap, .slice tt.us.a tt.us.len tt.us.cap, .slice tt.fs.a tt.fs.len tt.fs.cap, .slice tt.ks.a tt.ks.len tt.ks.cap] 55)) := Lib.hid (heap_alloc_new _ _)
      have HBA : Hid (Below w.heap.size w (wr.alloc (.cells #[.string tt.name, .slice tt.cs.a tt.cs.len tt.cs.cap, .slice tt.ps.a tt.ps.len tt.ps.cap, .slice tt.us.a tt.us.len tt.us.cap, .slice tt.fs.a tt.fs.len tt.fs.cap, .slice tt.ks.a tt.ks.len tt.ks.cap] 55))) := Lib.hid (HBX.out.alloc (by omega) _)
      have HWA : Hid (Below (w.heap.size + 3) W0 (wr.alloc (.cells #[.string tt.name, .slice tt.cs.a tt.cs.len tt.cs.cap, .slice tt.ps.a tt.ps.len tt.ps.cap, .slice tt.us.a tt.us.len tt.us.cap, .slice tt.fs.a tt.fs.len tt.fs.cap, .slice tt.ks.a tt.ks.len tt.ks.cap] 55))) := Lib.hid (HW.out.alloc (by omega) _)
      have HDX : Hid ((wr.alloc (.cells #[.string tt.name, .slice tt.cs.a tt.cs.len tt.cs.cap, .slice tt.ps.a tt.ps.len tt.ps.cap, .slice tt.us.a tt.us.len tt.us.cap, .slice tt.fs.a tt.fs.len tt.fs.cap, .slice tt.ks.a tt.ks.len tt.ks.cap] 55)).heap[w.heap.size + 1 + 1 + 1]? = some (.cells #[.slice (some ⟨b, off, none⟩) sn lc, u] 70)) := Lib.hid (by rw [Below.heap_alloc _ _ _ d0]; exact HD.out)
      have HTX : Hid ((wr.alloc (.cells #[.string tt.name, .slice tt.cs.a tt.cs.len tt.cs.cap, .slice tt.ps.a tt.ps.len tt.ps.cap, .slice tt.us.a tt.us.len tt.us.cap, .slice tt.fs.a tt.fs.len tt.fs.cap, .slice tt.ks.a tt.ks.len tt.ks.cap] 55)).heap[w.heap.size + 1]? = some (.cells #[.slice (some ⟨ib, ioff, none⟩) sn sc] 32)) := Lib.hid (by rw [Below.heap_alloc _ _ _ g0]; exact HT1.out)
      have HOX := Lib.hid (own_laterO HO.out (w' := (wr.alloc (.cells #[.string tt.name, .slice tt.cs.a tt.cs.len tt.cs.cap, .slice tt.ps.a tt.ps.len tt.ps.cap, .slice tt.us.a tt.us.len tt.us.cap, .slice tt.fs.a tt.fs.len tt.fs.cap, .slice tt.ks.a tt.ks.len tt.ks.cap] 55))) ((Below.refl _ _).alloc (Nat.le_refl _) _))
      have HAX := Lib.hid (HA.out.later (w' := (wr.alloc (.cells #[.string tt.name, .slice tt.cs.a tt.cs.len tt.cs.cap, .slice tt.ps.a tt.ps.len tt.ps.cap, .slice tt.us.a tt.us.len tt.us.cap, .slice tt.fs.a tt.fs.len tt.fs.cap, .slice tt.ks.a tt.ks.len tt.ks.cap] 55))) ((Below.refl _ _).alloc (Nat.le_refl _) _))
      have hal : (wr.alloc (.cells #[.string tt.name, .slice tt.cs.a tt.cs.len tt.cs.cap, .slice tt.ps.a tt.ps.len tt.ps.cap, .slice tt.us.a tt.us.len tt.us.cap, .slice tt.fs.a tt.fs.len tt.fs.cap, .slice tt.ks.a tt.ks.len tt.ks.cap] 55)).heap.size = wr.heap.size + 1 := by simp
      have p1 : (wr.alloc (.cells #[.string tt.name, .slice tt.cs.a tt.cs.len tt.cs.cap, .slice tt.ps.a tt.ps.len tt.ps.cap, .slice tt.us.a tt.us.len tt.us.cap, .slice tt.fs.a tt.fs.len tt.fs.cap, .slice tt.ks.a tt.ks.len tt.ks.cap] 55)).cell? ⟨ib, ioff + j, none⟩ = some (.slice ua un uc) := by rw [HBA.out.cell (p := ⟨ib, _, none⟩) hib]; exact p0
      have HP1 := Lib.hid p1
      go_wp2_with fail
      clear p1 q0 q1 q2 q3 q4 q5 p0 dc0 dc1 df0 df1 ec0 gc0 HD HO HA HBX HT0 HT1 HT2 HW
      have hxb : wr.heap.size + 1 ≤ (wr.alloc (.cells #[.string tt.name, .slice tt.cs.a tt.cs.len tt.cs.cap, .slice tt.ps.a tt.ps.len tt.ps.cap, .slice tt.us.a tt.us.len tt.us.cap, .slice tt.fs.a tt.fs.len tt.fs.cap, .slice tt.ks.a tt.ks.len tt.ks.cap] 55)).heap.size := by omega
      clear hal
      generalize (wr.alloc (.cells #[.string tt.name, .slice tt.cs.a tt.cs.len tt.cs.cap, .slice tt.ps.a tt.ps.len tt.ps.cap, .slice tt.us.a tt.us.len tt.us.cap, .slice tt.fs.a tt.fs.len tt.fs.cap, .slice tt.ks.a tt.ks.len tt.ks.cap] 55)) = X at *
      generalize wr.heap.size = xb at *
      obtain ⟨d1, df0, df1, dc0, dc1⟩ := two_z HDX.out
      obtain ⟨g1, _, gc0⟩ := one_z HTX.out
      obtain ⟨t1, _, _, _, _, _, _, m0, m1, m2, m3, m4, m5⟩ := six_z HBN.out
      have p1 := HP1.out
      have hibX : ib < X.heap.size := by omega
      have o1 : w.heap.size + 1 + 1 + 1 ≠ blkOf u X.heap.size := blk_off HOX.out _ (by omega) (by omega)
      have o2 : w.heap.size + 1 ≠ blkOf u X.heap.size := blk_off HOX.out _ (by omega) (by omega)
      have o3 : ib ≠ blkOf u X.heap.size := blk_off HOX.out _ (by omega) (by omega)
      have o4 : xb ≠ blkOf u X.heap.size := blk_off_ty HOX.out _ HBN.out (by decide) (by omega)
      refine LM.wp_region_lin_in (C := fun w' => ∃ y : LatB (blkOf u X.heap.size) X, w' = y.val) (fun x => ⟨⟨x.val, (Tp.refl _ _).ext x⟩, rfl⟩) (by kernel_rfl) (by kernel_rfl) ?_
      intro x0
      have x0s := x0.size
      repeat (refine LM.lin_calm rfl ?_; intro KK hKK; go_big_quiet_step (fail); refine wpQuiet_nil ?_; refine hKK _ ?_; clear hKK KK)
      refine LM.lin_free rfl ?_
      intro KK hKK
      go_wp2_with (go_at_call 49; ((with_reducible refine (D1.out _ (x0.on HBA.out (by omega))).mono ?_); rintro e w1 ⟨v, rfl, hov, y, rfl⟩; have HV := Lib.hid hov; clear hov; have ys := y.size))
      have HTY : Hid (Tp (blkOf u X.heap.size) X y.val) := Lib.hid (((Tp.refl _ _).ext x0).ext y)
      refine hKK _ _ (.inr ⟨⟨y.val, HTY.out⟩, rfl⟩) ?_
      clear hKK KK
      refine LM.lin_free rfl ?_
      intro KK hKK
      go_wp2_with fail
      refine hKK _ _ (.inr ⟨⟨y.val.alloc (.cells #[.string tt.name, .slice tt.cs.a tt.cs.len tt.cs.cap, .slice tt.ps.a tt.ps.len tt.ps.cap, .slice tt.us.a tt.us.len tt.us.cap, .slice tt.fs.a tt.fs.len tt.fs.cap, .slice tt.ks.a tt.ks.len tt.ks.cap, .slice ua un uc, v, .bool fb] 98), HTY.out.alloc _⟩, rfl⟩) ?_
      clear hKK KK
      refine LM.lin_free rfl ?_
      intro KK hKK
      go_wp2_with (at_builtin; refine wpList_append_own_at _ rfl _ _ 68 rfl (w.heap.size + 4) 98 i0 (.agg #[.string ⟨#[]⟩, .slice none 0 0, .slice none 0 0, .slice none 0 0, .slice none 0 0, .slice none 0 0, .slice none 0 0, .slice none 0 0, .bool false]) 9 192 Tryz.underlying68 hi0 hz0 hz1 hz2 rfl (by decide) u j (catN (xCs tb t r f iv) j) rfl (own_laterO HOX.out ((y.on x0.below (by omega)).alloc (by omega) _)) ⟨y.val.heap.size, 0, none⟩ 1 1 (xC tt ⟨ua, un, uc⟩ v fb) rfl rfl (cells_new' _ (xC tt ⟨ua, un, uc⟩ v fb) _) (xC_one (own_one' HV.out)) (by unfold maxLen; omega) (by omega) (by simp; omega) ?_; intro v3 w3 hown3 hg3 _ hat3; have HO3 := Lib.hid hown3; have HG3 := Lib.hid hg3; clear hown3 hg3 hat3; obtain ⟨va3, vn3, vc3, ev3⟩ := own_sliceR HO3.out; subst ev3)
      have hus : ∀ k, u.ownBlock = some k → w.heap.size + 4 ≤ k := fun k hk => (HOX.out.lt k hk).1
      refine hKK _ _ (.inr ⟨⟨w3, tp_grow (HTY.out.alloc _) HG3.out⟩, rfl⟩) ?_
      clear hKK KK
      repeat (refine LM.lin_calm rfl ?_; intro KK hKK; go_big_quiet_step (fail); refine wpQuiet_nil ?_; refine hKK _ ?_; clear hKK KK)
      have HDW : Hid (w3.heap[w.heap.size + 1 + 1 + 1]? = some (.cells #[.slice (some ⟨b, off, none⟩) sn lc, u] 70)) := Lib.hid (by
        rw [HG3.out.block _ (by simp; omega) (fun e => by have := hus _ e.symm; omega), Below.heap_alloc _ _ _ (by omega), y.below.block _ (by omega), x0.below.block _ d1]
        exact HDX.out)
      have HWW : Hid (Below (w.heap.size + 3) W0 w3) := Lib.hid (Below.grown (w := y.val.alloc _) ((y.on (x0.on HWA.out (by omega)) (by omega)).alloc (by omega) _) HG3.out (by simp; omega) (fun k hk => by have := hus k hk; omega))
      have HVW : Hid (OwnO w3 (w.heap.size + 4) v R) := Lib.hid (OwnO.kept ((HV.out.mono (by omega)).later ((Below.refl _ _).alloc (Nat.le_refl _) _)) HG3.out (own_apart (own_laterO HV.out ((Below.refl _ _).alloc (Nat.le_refl _) _)) (own_laterO HOX.out ((y.on x0.below (by omega)).alloc (by omega) (.cells #[.string tt.name, .slice tt.cs.a tt.cs.len tt.cs.cap, .slice tt.ps.a tt.ps.len tt.ps.cap, .slice tt.us.a tt.us.len tt.us.cap, .slice tt.fs.a tt.fs.len tt.fs.cap, .slice tt.ks.a tt.ks.len tt.ks.cap, .slice ua un uc, v, .bool fb] 98))) (by decide)))
      have HAW : Hid (DbAt w3 (w.heap.size + 4) tb t r f iv j) := Lib.hid (DbAt.grown (w := y.val.alloc (.cells #[.string tt.name, .slice tt.cs.a tt.cs.len tt.cs.cap, .slice tt.ps.a tt.ps.len tt.ps.cap, .slice tt.us.a tt.us.len tt.us.cap, .slice tt.fs.a tt.fs.len tt.fs.cap, .slice tt.ks.a tt.ks.len tt.ks.cap, .slice ua un uc, v, .bool fb] 98)) (HAX.out.later ((y.on x0.below (by omega)).alloc (by omega) _)) HG3.out fun k hk => own_apart (own_laterO (HAX.out.own k hk) ((y.on x0.below (by omega)).alloc (by omega) (.cells #[.string tt.name, .slice tt.cs.a tt.cs.len tt.cs.cap, .slice tt.ps.a tt.ps.len tt.ps.cap, .slice tt.us.a tt.us.len tt.us.cap, .slice tt.fs.a tt.fs.len tt.fs.cap, .slice tt.ks.a tt.ks.len tt.ks.cap, .slice ua un uc, v, .bool fb] 98))) (own_laterO HOX.out ((y.on x0.below (by omega)).alloc (by omega) (.cells #[.string tt.name, .slice tt.cs.a tt.cs.len tt.cs.cap, .slice tt.ps.a tt.ps.len tt.ps.cap, .slice tt.us.a tt.us.len tt.us.cap, .slice tt.fs.a tt.fs.len tt.fs.cap, .slice tt.ks.a tt.ks.len tt.ks.cap, .slice ua un uc, v, .bool fb] 98))) (by decide))
      have HAL : Hid (∀ k g, k < j → (iv k).ownBlock = some g → g < X.heap.size) := Lib.hid fun k g hk hg => ((HAX.out.own k hk).lt g hg).2
      have HVL : Hid (∀ g, v.ownBlock = some g → X.heap.size ≤ g) := Lib.hid fun g hg => by have := (HV.out.lt g hg).1; omega
      obtain ⟨d2, dg0, dg1, dh0, dh1⟩ := two_z HDW.out
      refine LM.lin_free rfl ?_
      intro KK hKK
      go_wp2_with fail
      refine hKK _ _ (.inl trivial) ?_
      clear hKK KK
      refine LM.lin_nil ?_
      go_wp2_with fail
      go_roundw
      case rel =>
        refine ⟨j + 1, _, ivP iv j v, by omega, by go_num, heap_setCell_same w3 (w.heap.size + 1 + 1 + 1) 1 _ _ _ HDW.out, ?_, ?_, HWW.out.setCell (by first | (simp; done) | (simp; omega)) _⟩
        · rw [xCs_snoc, HTT.out, HUU.out, HFB.out]
          exact own_setCellR HO3.out _ (by first | (simp; done) | (simp; omega)) _
        · exact DbAt.snoc (HAW.out.setCell _ (by first | (simp; done) | (simp; omega)) _) (by rw [HTT.out, HUU.out, show rowsO tt (r j) (f j) (Sl.mk ua un uc).len = R from HRO.out]; exact HVW.out.setCell _ (by first | (simp; done) | (simp; omega)) _) HAL.out HVL.out
      case measure => simp [intOf]; omega
    · obtain rfl : j = sn := by omega
      obtain ⟨ds, eu, hdl, hds⟩ := slAt_own9 (xCs_len tb t r f iv) HO.out
      subst eu
      obtain ⟨r0, rf0, rf1, rc0, rc1⟩ := two_z HT2.out
      go_wp2_with fail
      refine ret_ex rfl ?_
      simp [results, Tryz.results28, go_sem, rc0, rc1]
      refine ⟨ds, ⟨rfl, hdl.symm, rfl⟩, hdl, iv, ?_, ?_, ?_, Cls.of ?_⟩
      · obtain ⟨ds2, e2, _, h2⟩ := slAt_own9 (xCs_len tb t r f iv) (own_setCellR (own_setCellR HO.out ⟨w.heap.size + 1 + 1, 0, none⟩ (by simp) (.slice la j lc)) ⟨w.heap.size + 1 + 1, 1, none⟩ (by simp) (.slice ds.a j ds.cap))
        have e3 : ds = ds2 := by
          cases ds
          cases ds2
          simpa using e2
        rw [e3] at h2 ⊢
        exact h2
      · exact (HA.out.setCell _ (by simp) _).setCell _ (by simp) _
      · intro k hk b off ha e
        rcases own_apart (HA.out.own k hk) HO.out (by decide) with h1 | h1
        · rw [h1] at e; cases e
        · rw [e] at h1
          exact h1 (by rw [ha]; rfl)
      · exact (HBX.out.setCell (by first | (simp; done) | (simp; omega)) _).setCell (by first | (simp; done) | (simp; omega)) _
end Go.Proofs.YtdmhmlnfoocnjaaGreatDoor
