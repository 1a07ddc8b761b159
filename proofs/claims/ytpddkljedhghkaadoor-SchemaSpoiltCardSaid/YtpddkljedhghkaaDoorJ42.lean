/-
  A schema that was made, one of whose fields is changed: the eight changes. What the walks of laws over the tape use: its calls by their numbers, and the list of numbers that it is made of. SchemaSpoilt: what the law does, whatever numbers it is given.
-/
import Derived.Test.YtpddkljedhghkaaDoorJ41
import Derived.Test.YtpddkljedhghkaaDoorJ39
set_option linter.unusedVariables false
namespace Go.Proofs.YtpddkljedhghkaaDoor
open Go Go.RowKit Go.Deep
theorem schO_carry {W W' : World} {lo0 : Nat} {sl : Sl} {tb : Nat → Tb} (h : SchO W lo0 sl tb) (hb : ∀ b, lo0 ≤ b → b < W.heap.size → W'.heap[b]? = W.heap[b]?) (hs : W.heap.size ≤ W'.heap.size) : SchO W' lo0 sl tb := by
  obtain ⟨h1, los, his, h2, h3⟩ := h
  refine ⟨own_block h1 fun k hk => hb k (h1.lt k hk).1 (h1.lt k hk).2, los, his, fun j hj => ?_, h3⟩
  obtain ⟨u1, u2, u3, u4⟩ := h2 j hj
  exact ⟨u1.carry (fun b hb1 hb2 => hb b (by omega) (by omega)) hs, u2, by omega, u4⟩
theorem tbO_open {W : World} {t : Tb} {lo hi : Nat} (h : TbO W t lo hi) : ∃ (wr : World) (xb pb : Nat) (nm : ByteArray) (s1 s2 s3 s4 : Sl) (cl : List Cl) (ul : List UR) (fl : List FR) (rs : List Rec),
    t = tbG nm s1 cl pb s2 ul s3 fl s4 (rs.map Rec.e) ∧ RowsG lo xb s1.v s2.v s3.v s4.v cl ul fl rs wr ∧ lo ≤ pb ∧ wr.heap[pb]? = some (.cells #[.int .i64 0] 3) ∧ nm.size ≤ maxLen ∧ (∀ c ∈ cl, c.name.size ≤ maxLen ∧ (Lit.int .i64 c.ty).wf = true) ∧ (∀ r ∈ fl, r.nm.size ≤ maxLen) ∧
      s1.len = cl.length ∧ s2.len = ul.length ∧ s3.len = fl.length ∧ s4.len = rs.length ∧ wr.heap.size = hi ∧ hi ≤ W.heap.size ∧ ∀ b, lo ≤ b → b < hi → W.heap[b]? = wr.heap[b]? := by
  obtain ⟨h1, wr, xb, pb, nm, s1, s2, s3, s4, cl, ul, fl, rs, e, hr, p1, p2, p3, p4, p5, e6, p7, p8⟩ := h
  obtain ⟨q1, q2, q3, q4, f1, f2, f3, f4, l1, l2, l3, l4, _⟩ := tbI_of hr p3 p1 p2 p4 p5
  rw [← sl_inj f1] at l1
  rw [← sl_inj f2] at l2
  rw [← sl_inj f3] at l3
  rw [← sl_inj f4] at l4
  exact ⟨wr, xb, pb, nm, s1, s2, s3, s4, cl, ul, fl, rs, e, hr, p1, p2, p3, p4, p5, l1, l2, l3, l4, e6, p7, p8⟩
/-- What the store into the row leaves. -/
theorem row_keep {W w3 : World} {lo0 i lo hi g n cap o : Nat} {tb : Nat → Tb} {v : Value} (h : OpenAt W lo0 ⟨some ⟨g, 0, none⟩, n, cap⟩ tb i lo hi) (hw : ∀ b, b < W.heap.size → ¬ (lo ≤ b ∧ b < hi) → w3.heap[b]? = W.heap[b]?) (hs : W.heap.size ≤ w3.heap.size) :
    w3.ownsRow lo0 53 6 (.slice (some ⟨g, 0, none⟩) n cap) n ((List.range n).flatMap fun j => (tb j).cells) ∧ ∀ j, j < n → j ≠ i → TbAt (w3.setCell ⟨g, o, none⟩ v) (tb j) := by
  obtain ⟨h1, h2, h3, h4, h5, h6⟩ := h
  refine ⟨own_block h1 fun k hk => hw k (h1.lt k hk).2 (h5 k hk), h6 _ (fun b hb hn hne _ => ?_) (by simp [World.setCell]; exact hs)⟩
  exact (Below.heap_setCell _ _ _ _ (by rintro rfl; exact hne rfl)).trans (hw b hb hn)
theorem chg_name {W : World} {lo0 i lo hi g n cap : Nat} {tb : Nat → Tb} {nm : ByteArray} (h : OpenAt W lo0 ⟨some ⟨g, 0, none⟩, n, cap⟩ tb i lo hi) (hi : i < n) (hn : nm.size ≤ maxLen) :
    ∃ t', TabsAt (W.setCell ⟨g, i * 6 + 0, none⟩ (.string nm)) ⟨some ⟨g, 0, none⟩, n, cap⟩ (put tb i t') ∧ (CkS (tb i) → CkS t') := by
  have hT : TbAt (W.setCell ⟨g, i * 6 + 0, none⟩ (.string nm)) (tb i) := (h.2.1.carry (fun b h1 h2 => Below.heap_setCell _ _ _ _ (by rintro rfl; exact h.2.2.2.2.1 _ rfl ⟨h1, h2⟩)) (by simp [World.setCell])).at_
  obtain ⟨r1, r2⟩ := row_keep (o := i * 6 + 0) (v := .string nm) h (fun b _ _ => rfl) (Nat.le_refl _)
  exact ⟨{ tb i with name := nm }, put_row r1 hi (by omega) rfl ⟨hn, hT.cols, hT.colf, hT.prim, hT.uqs, hT.uqn, hT.fks, hT.fkn, hT.kids⟩ r2, fun hc => hc⟩
theorem chg_prim {W : World} {lo0 i lo hi g n cap : Nat} {tb : Nat → Tb} {c : Int} (h : OpenAt W lo0 ⟨some ⟨g, 0, none⟩, n, cap⟩ tb i lo hi) (hi : i < n) :
    ∃ t', TabsAt ((W.alloc (.cells #[.int .i64 c] 3)).setCell ⟨g, i * 6 + 2, none⟩ (.slice (some ⟨W.heap.size, 0, none⟩) 1 1)) ⟨some ⟨g, 0, none⟩, n, cap⟩ (put tb i t') ∧ (CkS (tb i) → CkS t') := by
  have hg := (h.1.lt g rfl).2
  have hh := h.2.2.2.1
  have hT : TbAt ((W.alloc (.cells #[.int .i64 c] 3)).setCell ⟨g, i * 6 + 2, none⟩ (.slice (some ⟨W.heap.size, 0, none⟩) 1 1)) (tb i) :=
    (h.2.1.carry (fun b h1 h2 => (Below.heap_setCell _ _ _ _ (by rintro rfl; exact h.2.2.2.2.1 _ rfl ⟨h1, h2⟩)).trans (Below.heap_alloc _ _ _ (by omega))) (by simp [World.setCell])).at_
  obtain ⟨r1, r2⟩ := row_keep (w3 := W.alloc (.cells #[.int .i64 c] 3)) (o := i * 6 + 2) (v := .slice (some ⟨W.heap.size, 0, none⟩) 1 1) h (fun b hb _ => Below.heap_alloc _ _ _ hb) (by simp)
  have hb : ((W.alloc (.cells #[.int .i64 c] 3)).setCell ⟨g, i * 6 + 2, none⟩ (.slice (some ⟨W.heap.size, 0, none⟩) 1 1)).heap[W.heap.size]? = some (.cells #[.int .i64 c] 3) := set_ne (heap_alloc_new W _) (by omega)
  exact ⟨{ tb i with ps := ⟨some ⟨W.heap.size, 0, none⟩, 1, 1⟩, prim := fun _ => c }, put_row r1 hi (by omega) rfl ⟨hT.name, hT.cols, hT.colf, (sl_one hb (Nat.zero_le _)).1, hT.uqs, hT.uqn, hT.fks, hT.fkn, hT.kids⟩ r2, fun hc => hc⟩
/-- Where a table's columns lie, and what a change of one leaves. -/
theorem chg_col {W : World} {lo0 i lo hi g n cap c : Nat} {tb : Nat → Tb} (h : OpenAt W lo0 ⟨some ⟨g, 0, none⟩, n, cap⟩ tb i lo hi) (hi : i < n) (hc : c < (tb i).cs.len) :
    ∃ gc ccap, (tb i).cs = ⟨some ⟨gc, 0, none⟩, (tb i).cs.len, ccap⟩ ∧ gc ≠ g ∧ W.ownsRow lo 55 3 (.slice (some ⟨gc, 0, none⟩) (tb i).cs.len ccap) (tb i).cs.len ((List.range (tb i).cs.len).flatMap fun j => ((tb i).col j).cells) ∧
      ∀ (f : Nat) (col' : Cl) (v : Value), f < 3 → col'.cells = ((tb i).col c).cells.set f v → (col'.name.size ≤ maxLen ∧ (Lit.int .i64 col'.ty).wf = true) →
        ∃ t', TabsAt (W.setCell ⟨gc, c * 3 + f, none⟩ v) ⟨some ⟨g, 0, none⟩, n, cap⟩ (put tb i t') ∧ (CkS (tb i) → CkS t') := by
  obtain ⟨h1, h2, h3, h4, h5, h6⟩ := h
  obtain ⟨wr, xb, pb, nm, s1, s2, s3, s4, cl, ul, fl, rs, et, hr, p1, p2, p3, p4, p5, l1, l2, l3, l4, e6, p7, p8⟩ := tbO_open h2
  generalize hti : tb i = ti at *
  subst et
  have hc2 : c < cl.length := by
    have : c < s1.len := hc
    omega
  obtain ⟨a1, n1, c1⟩ := s1
  have hn1 : n1 = cl.length := l1
  subst hn1
  obtain ⟨k, hk⟩ : ∃ k, cl.length = k + 1 := ⟨cl.length - 1, by omega⟩
  obtain ⟨gc, ccap, hv⟩ := own_slice_z (by have := hr.c; rw [hk] at this; exact this)
  simp only [Sl.v, Value.slice.injEq] at hv
  obtain ⟨rfl, _, rfl⟩ := hv
  have hrg := hr.c.lt gc rfl
  have hgg : gc ≠ g := by
    rintro rfl
    exact h5 gc rfl ⟨hrg.1, by omega⟩
  have hC : W.ownsRow lo 55 3 (.slice (some ⟨gc, 0, none⟩) cl.length c1) cl.length (cl.flatMap Cl.cells) := own_block hr.c fun k hk => by
    have : some gc = some k := hk
    injection this with e
    subst e
    exact p8 _ hrg.1 (by omega)
  have hfl : cl.flatMap Cl.cells = (List.range cl.length).flatMap fun j => (cl.getD j default).cells := by
    rw [← List.flatMap_map (f := fun j => cl.getD j default) (g := Cl.cells)]
    congr 1
    apply List.ext_getElem?
    intro j
    by_cases hj : j < cl.length
    · simp [List.getD, hj]
    · simp [hj]
  refine ⟨gc, c1, rfl, hgg, by
    show W.ownsRow lo 55 3 _ cl.length ((List.range cl.length).flatMap fun j => (cl.getD j default).cells)
    rw [← hfl]
    exact hC, fun f col' v hf hv hok => ?_⟩
  have hkeep : ∀ b, b ≠ gc → (W.setCell ⟨gc, c * 3 + f, none⟩ v).heap[b]? = W.heap[b]? := fun b hb => Below.heap_setCell _ _ _ _ hb
  have hsz : (W.setCell ⟨gc, c * 3 + f, none⟩ v).heap.size = W.heap.size := by simp [World.setCell]
  have hD := hr.dropC (w' := W.setCell ⟨gc, c * 3 + f, none⟩ v) (fun b hb1 hb2 hne => (hkeep b (by rintro rfl; exact hne rfl)).trans (p8 b hb1 (by omega))) (by omega)
  have hpb : (W.setCell ⟨gc, c * 3 + f, none⟩ v).heap[pb]? = some (.cells #[.int .i64 0] 3) := (hkeep pb fun e => own_ne_z hr.c p2 (by decide) gc rfl e.symm).trans ((p8 pb p1 (by have := (Array.getElem?_eq_some_iff.1 p2).1; omega)).trans p2)
  obtain ⟨q1, q2, q3, q4, f1, f2, f3, f4, _, _, _, _, hI⟩ := tbI_of hD p3 p1 hpb (fun c hc => by simp at hc) p5
  obtain rfl := sl_inj f2
  obtain rfl := sl_inj f3
  obtain rfl := sl_inj f4
  have hA := hI.at_
  have hS := stored_sl (cell := fun j => (cl.getD j default).cells) (i := c) (f := f) (v := v) (ci := col'.cells) hC (fun i hi j hj => flat_at Cl.cells 3 Cl.cells_len default cl i hi j hj) hc2 hf hv rfl
  have ep : (fun j => (put (fun j => cl.getD j default) c col' j).cells) = put (fun j => (cl.getD j default).cells) c col'.cells := by
    funext j
    unfold put
    split <;> rfl
  refine ⟨{ tbG nm ⟨some ⟨gc, 0, none⟩, cl.length, c1⟩ cl pb s2 ul s3 fl s4 (rs.map Rec.e) with col := put (fun j => cl.getD j default) c col' }, put_in (own_block h1 fun k hk => ?_) (by rw [hti]; rfl) ⟨hA.name, ?_, fun j hj => ?_, hA.prim, hA.uqs, hA.uqn, hA.fks, hA.fkn, hA.kids⟩ (h6 _ (fun b hb hnb _ _ => hkeep b ?_) (by omega)), fun hc => hc⟩
  · have : some g = some k := hk
    injection this with e
    subst e
    exact hkeep _ (fun e => hgg e.symm)
  · show SlAt _ 3 _ (fun j => (put (fun j => cl.getD j default) c col' j).cells)
    rw [ep]
    exact hS
  · show (put (fun j => cl.getD j default) c col' j).name.size ≤ maxLen ∧ (Lit.int .i64 (put (fun j => cl.getD j default) c col' j).ty).wf = true
    by_cases e : j = c
    · subst e
      rw [put_at]
      exact hok
    · rw [show put (fun j => cl.getD j default) c col' j = cl.getD j default from if_neg e]
      exact p4 _ (list_mem hj)
  · rintro rfl
    exact hnb ⟨hrg.1, by omega⟩
/-- Where a table's foreign keys lie, and what one more leaves. -/
theorem chg_fk {W : World} {lo0 i lo hh g n cap : Nat} {tb : Nat → Tb} (h : OpenAt W lo0 ⟨some ⟨g, 0, none⟩, n, cap⟩ tb i lo hh) (hi : i < n) :
    ∃ xs : List Value, W.ownsRow lo 57 2 (.slice (tb i).fs.a (tb i).fs.len (tb i).fs.cap) (tb i).fs.len xs ∧
      ∀ (w3 : World) (bb : Nat) (c : Int) (nm : ByteArray) (v : Value), nm.size ≤ maxLen → w3.ownsRow lo 57 2 v ((tb i).fs.len + 1) (xs ++ [.slice (some ⟨bb, 0, none⟩) 1 1, .string nm]) → w3.heap[bb]? = some (.cells #[.int .i64 c] 3) → (∀ b, b < W.heap.size → (Value.slice (tb i).fs.a (tb i).fs.len (tb i).fs.cap).ownBlock ≠ some b → w3.heap[b]? = W.heap[b]?) → W.heap.size ≤ w3.heap.size →
        ∃ t', TabsAt (w3.setCell ⟨g, i * 6 + 4, none⟩ v) ⟨some ⟨g, 0, none⟩, n, cap⟩ (put tb i t') ∧ (CkS (tb i) → CkS t') := by
  have hop := h
  obtain ⟨h1, h2, h3, h4, h5, h6⟩ := h
  obtain ⟨wr, xb, pb, nm0, s1, s2, s3, s4, cl, ul, fl, rs, et, hr, p1, p2, p3, p4, p5, l1, l2, l3, l4, e6, p7, p8⟩ := tbO_open h2
  generalize hti : tb i = ti at *
  subst et
  have hF : W.ownsRow lo 57 2 s3.v fl.length (fl.flatMap FR.cells) := own_block hr.f fun k hk => p8 _ (hr.f.lt k hk).1 (by have := (hr.f.lt k hk).2; omega)
  refine ⟨fl.flatMap FR.cells, by show W.ownsRow lo _ 2 s3.v s3.len _; rw [l3]; exact hF, fun w3 bb c nm v hnm hown hbb hw hs => ?_⟩
  have hown2 : w3.ownsRow lo 57 2 v (fl.length + 1) (fl.flatMap FR.cells ++ [.slice (some ⟨bb, 0, none⟩) 1 1, .string nm]) := by
    have e : (tbG nm0 s1 cl pb s2 ul s3 fl s4 (rs.map Rec.e)).fs.len = fl.length := l3
    rw [e] at hown
    exact hown
  have hw2 : ∀ b, b < W.heap.size → s3.v.ownBlock ≠ some b → w3.heap[b]? = W.heap[b]? := hw
  have hw3 : ∀ b, b < W.heap.size → ¬ (lo ≤ b ∧ b < hh) → w3.heap[b]? = W.heap[b]? := fun b hb hn => hw2 b hb fun e => hn ⟨(hr.f.lt b e).1, by have := (hr.f.lt b e).2; omega⟩
  obtain ⟨r1, r2⟩ := row_keep (o := i * 6 + 4) (v := v) hop hw3 hs
  have hg0 : ∃ cur, w3.heap[g]? = some (.cells cur 53) := by
    rcases r1.2 with ⟨h', _⟩ | ⟨g', cap', cur, h', _, hg, _⟩
    · simp at h'
    · simp only [Value.slice.injEq, Option.some.injEq, Addr.mk.injEq, and_true, true_and] at h'
      obtain ⟨rfl, rfl⟩ := h'
      exact ⟨cur, hg⟩
  obtain ⟨cur, hg⟩ := hg0
  have hkeep : ∀ b, b ≠ g → (w3.setCell ⟨g, i * 6 + 4, none⟩ v).heap[b]? = w3.heap[b]? := fun b hb => Below.heap_setCell _ _ _ _ hb
  have hng : ∀ b, lo ≤ b → b < hh → b ≠ g := fun b hb1 hb2 e => h5 g rfl ⟨by omega, by omega⟩
  have hin : ∀ b, lo ≤ b → b < hh → s3.v.ownBlock ≠ some b → (w3.setCell ⟨g, i * 6 + 4, none⟩ v).heap[b]? = wr.heap[b]? := fun b hb1 hb2 hne => (hkeep b (hng b hb1 hb2)).trans ((hw2 b (by omega) hne).trans (p8 b hb1 hb2))
  have hsz : (w3.setCell ⟨g, i * 6 + 4, none⟩ v).heap.size = w3.heap.size := by simp [World.setCell]
  have hD := hr.dropF (w' := w3.setCell ⟨g, i * 6 + 4, none⟩ v) (fun b hb1 hb2 hne => hin b hb1 (by omega) hne) (by omega)
  have hpb : (w3.setCell ⟨g, i * 6 + 4, none⟩ v).heap[pb]? = some (.cells #[.int .i64 0] 3) := (hin pb p1 (by have := (Array.getElem?_eq_some_iff.1 p2).1; omega) fun e => own_ne_z hr.f p2 (by decide) pb e rfl).trans p2
  obtain ⟨q1, q2, q3, q4, f1, f2, f3, f4, _, _, _, _, hI⟩ := tbI_of hD p3 p1 hpb p4 (fun c hc => by simp at hc)
  obtain rfl := sl_inj f1
  obtain rfl := sl_inj f2
  obtain rfl := sl_inj f4
  have hA := hI.at_
  have hO : (w3.setCell ⟨g, i * 6 + 4, none⟩ v).ownsRow lo 57 2 v (fl.length + 1) ((fl ++ [(⟨bb, c, nm⟩ : FR)]).flatMap FR.cells) := by
    rw [List.flatMap_append, List.flatMap_cons, List.flatMap_nil, List.append_nil]
    exact own_set hown2 (own_ne_z hown2 hg (by decide))
  obtain ⟨s5, e5, l5, hS⟩ := own_sl (cell := fun i => ((fl ++ [(⟨bb, c, nm⟩ : FR)]).getD i default).cells) hO fun i hi j hj => flat_at FR.cells 2 FR.cells_len default _ i (by simp; omega) j hj
  have hbb2 : (w3.setCell ⟨g, i * 6 + 4, none⟩ v).heap[bb]? = some (.cells #[.int .i64 c] 3) := set_ne hbb (blk_ne hbb hg (by decide))
  have hall : ∀ r ∈ fl ++ [(⟨bb, c, nm⟩ : FR)], (w3.setCell ⟨g, i * 6 + 4, none⟩ v).heap[r.b]? = some (.cells #[.int .i64 r.n] 3) ∧ r.nm.size ≤ maxLen := by
    intro r hr2
    rcases List.mem_append.1 hr2 with hr3 | hr3
    · have hb := hr.fb r hr3
      exact ⟨(hin r.b hb.1 (by have := (Array.getElem?_eq_some_iff.1 hb.2).1; omega) fun e => own_ne_z hr.f hb.2 (by decide) _ e rfl).trans hb.2, p5 r hr3⟩
    · simp only [List.mem_cons, List.not_mem_nil, or_false] at hr3
      subst hr3
      exact ⟨hbb2, hnm⟩
  subst e5
  refine ⟨tbG nm0 s1 cl pb s2 ul s5 (fl ++ [(⟨bb, c, nm⟩ : FR)]) s4 (rs.map Rec.e), put_row r1 hi (by omega) (by rw [hti]; rfl) ⟨hA.name, hA.cols, hA.colf, hA.prim, hA.uqs, hA.uqn, hS.1, fun k hk => ?_, hA.kids⟩ r2, fun hc => hc⟩
  have hk2 : k < (fl ++ [(⟨bb, c, nm⟩ : FR)]).length := by
    have : k < s5.len := hk
    simp
    omega
  obtain ⟨a1, a2⟩ := hall _ (list_mem (d := default) hk2)
  exact ⟨(sl_one a1 (Nat.zero_le _)).1, a2⟩
/-- Where a table's unique keys lie, and what one more leaves. -/
theorem chg_uq {W : World} {lo0 i lo hh g n cap : Nat} {tb : Nat → Tb} (h : OpenAt W lo0 ⟨some ⟨g, 0, none⟩, n, cap⟩ tb i lo hh) (hi : i < n) :
    ∃ xs : List Value, W.ownsRow lo 22 1 (.slice (tb i).us.a (tb i).us.len (tb i).us.cap) (tb i).us.len xs ∧
      ∀ (w3 : World) (bb : Nat) (c d : Int) (v : Value), w3.ownsRow lo 22 1 v ((tb i).us.len + 1) (xs ++ [.slice (some ⟨bb, 0, none⟩) 2 2]) → w3.heap[bb]? = some (.cells #[.int .i64 c, .int .i64 d] 3) → (∀ b, b < W.heap.size → (Value.slice (tb i).us.a (tb i).us.len (tb i).us.cap).ownBlock ≠ some b → w3.heap[b]? = W.heap[b]?) → W.heap.size ≤ w3.heap.size →
        ∃ t', TabsAt (w3.setCell ⟨g, i * 6 + 3, none⟩ v) ⟨some ⟨g, 0, none⟩, n, cap⟩ (put tb i t') ∧ (CkS (tb i) → CkS t') := by
  have hop := h
  obtain ⟨h1, h2, h3, h4, h5, h6⟩ := h
  obtain ⟨wr, xb, pb, nm0, s1, s2, s3, s4, cl, ul, fl, rs, et, hr, p1, p2, p3, p4, p5, l1, l2, l3, l4, e6, p7, p8⟩ := tbO_open h2
  generalize hti : tb i = ti at *
  subst et
  have hF : W.ownsRow lo 22 1 s2.v ul.length (ul.flatMap UR.cells) := own_block hr.u fun k hk => p8 _ (hr.u.lt k hk).1 (by have := (hr.u.lt k hk).2; omega)
  refine ⟨ul.flatMap UR.cells, by show W.ownsRow lo _ 1 s2.v s2.len _; rw [l2]; exact hF, fun w3 bb c d v hown hbb hw hs => ?_⟩
  have hown2 : w3.ownsRow lo 22 1 v (ul.length + 1) (ul.flatMap UR.cells ++ [.slice (some ⟨bb, 0, none⟩) 2 2]) := by
    have e : (tbG nm0 s1 cl pb s2 ul s3 fl s4 (rs.map Rec.e)).us.len = ul.length := l2
    rw [e] at hown
    exact hown
  have hw2 : ∀ b, b < W.heap.size → s2.v.ownBlock ≠ some b → w3.heap[b]? = W.heap[b]? := hw
  have hw3 : ∀ b, b < W.heap.size → ¬ (lo ≤ b ∧ b < hh) → w3.heap[b]? = W.heap[b]? := fun b hb hn => hw2 b hb fun e => hn ⟨(hr.u.lt b e).1, by have := (hr.u.lt b e).2; omega⟩
  obtain ⟨r1, r2⟩ := row_keep (o := i * 6 + 3) (v := v) hop hw3 hs
  have hg0 : ∃ cur, w3.heap[g]? = some (.cells cur 53) := by
    rcases r1.2 with ⟨h', _⟩ | ⟨g', cap', cur, h', _, hg, _⟩
    · simp at h'
    · simp only [Value.slice.injEq, Option.some.injEq, Addr.mk.injEq, and_true, true_and] at h'
      obtain ⟨rfl, rfl⟩ := h'
      exact ⟨cur, hg⟩
  obtain ⟨cur, hg⟩ := hg0
  have hkeep : ∀ b, b ≠ g → (w3.setCell ⟨g, i * 6 + 3, none⟩ v).heap[b]? = w3.heap[b]? := fun b hb => Below.heap_setCell _ _ _ _ hb
  have hng : ∀ b, lo ≤ b → b < hh → b ≠ g := fun b hb1 hb2 e => h5 g rfl ⟨by omega, by omega⟩
  have hin : ∀ b, lo ≤ b → b < hh → s2.v.ownBlock ≠ some b → (w3.setCell ⟨g, i * 6 + 3, none⟩ v).heap[b]? = wr.heap[b]? := fun b hb1 hb2 hne => (hkeep b (hng b hb1 hb2)).trans ((hw2 b (by omega) hne).trans (p8 b hb1 hb2))
  have hsz : (w3.setCell ⟨g, i * 6 + 3, none⟩ v).heap.size = w3.heap.size := by simp [World.setCell]
  have hD := hr.dropU (w' := w3.setCell ⟨g, i * 6 + 3, none⟩ v) (fun b hb1 hb2 hne => hin b hb1 (by omega) hne) (by omega)
  have hpb : (w3.setCell ⟨g, i * 6 + 3, none⟩ v).heap[pb]? = some (.cells #[.int .i64 0] 3) := (hin pb p1 (by have := (Array.getElem?_eq_some_iff.1 p2).1; omega) fun e => own_ne_z hr.u p2 (by decide) pb e rfl).trans p2
  obtain ⟨q1, q2, q3, q4, f1, f2, f3, f4, _, _, _, _, hI⟩ := tbI_of hD p3 p1 hpb p4 p5
  obtain rfl := sl_inj f1
  obtain rfl := sl_inj f3
  obtain rfl := sl_inj f4
  have hA := hI.at_
  have hO : (w3.setCell ⟨g, i * 6 + 3, none⟩ v).ownsRow lo 22 1 v (ul.length + 1) (ul.flatMap UR.cells ++ [.slice (some ⟨bb, 0, none⟩) 2 2]) := own_set hown2 (own_ne_z hown2 hg (by decide))
  obtain ⟨s5, e5, l5, hS⟩ := own_sl (cell := fun i => [(put (fun i => (⟨some ⟨(ul.getD i default).b, 0, none⟩, 1, 1⟩ : Sl)) ul.length (⟨some ⟨bb, 0, none⟩, 2, 2⟩ : Sl) i).v]) hO fun i hi j hj => by
    obtain rfl : j = 0 := by omega
    have hfl := flat_len UR.cells 1 UR.cells_len ul
    by_cases e : i = ul.length
    · subst e
      rw [put_at, List.getElem?_append_right (by omega), hfl]
      simp [Sl.v]
    · have hlt : i < ul.length := by omega
      rw [put_lt hlt, List.getElem?_append_left (by omega), flat_at UR.cells 1 UR.cells_len default ul i hlt 0 (by omega)]
      rfl
  have hbb2 : (w3.setCell ⟨g, i * 6 + 3, none⟩ v).heap[bb]? = some (.cells #[.int .i64 c, .int .i64 d] 3) := set_ne hbb (blk_ne hbb hg (by decide))
  subst e5
  refine ⟨{ tbG nm0 s1 cl pb s2 ul s3 fl s4 (rs.map Rec.e) with us := s5, uq := put (fun i => (⟨some ⟨(ul.getD i default).b, 0, none⟩, 1, 1⟩ : Sl)) ul.length (⟨some ⟨bb, 0, none⟩, 2, 2⟩ : Sl), uqn := put (fun i _ => (ul.getD i default).n) ul.length fun j => if j = 0 then c else d }, put_row r1 hi (by omega) (by rw [hti]; rfl) ⟨hA.name, hA.cols, hA.colf, hA.prim, hS.1, fun k hk => ?_, hA.fks, hA.fkn, hA.kids⟩ r2, fun hc => hc⟩
  show SlAt _ 1 (put (fun i => (⟨some ⟨(ul.getD i default).b, 0, none⟩, 1, 1⟩ : Sl)) ul.length (⟨some ⟨bb, 0, none⟩, 2, 2⟩ : Sl) k) (intC (put (fun i _ => (ul.getD i default).n) ul.length (fun j => if j = 0 then c else d) k))
  by_cases e : k = ul.length
  · subst e
    rw [put_at, put_at]
    have hlt := (Array.getElem?_eq_some_iff.1 hbb2).1
    refine ⟨Nat.le_refl _, by unfold maxLen; show 2 ≤ _; omega, fun e => by simp at e, fun i hi => ⟨bb, 0, rfl, hlt, fun j hj => ?_⟩⟩
    obtain rfl : j = 0 := by omega
    rw [cell_of_row _ _ _ _ _ (0, 0) hbb2]
    have hi2 : i < 2 := hi
    rcases (by omega : i = 0 ∨ i = 1) with rfl | rfl <;> rfl
  · have hlt : k < ul.length := by
      have : k < s5.len := hk
      omega
    rw [put_lt hlt, put_lt hlt]
    have hb := hr.ub _ (list_mem (d := default) hlt)
    exact (sl_one ((hin _ hb.1 (by have := (Array.getElem?_eq_some_iff.1 hb.2).1; omega) fun e => own_ne_z hr.u hb.2 (by decide) _ e rfl).trans hb.2) (Nat.zero_le _)).1
/-- Where a table's checks lie, and what one more leaves. -/
theorem chg_ck {W : World} {lo0 i lo hh g n cap : Nat} {tb : Nat → Tb} (h : OpenAt W lo0 ⟨some ⟨g, 0, none⟩, n, cap⟩ tb i lo hh) (hi : i < n) :
    ∃ xs : List Value, W.ownsRow lo 30 6 (.slice (tb i).ks.a (tb i).ks.len (tb i).ks.cap) (tb i).ks.len xs ∧
      ∀ (w3 : World) (c : Int) (v : Value), (Lit.int .i64 c).wf = true → w3.ownsRow lo 30 6 v ((tb i).ks.len + 1) (xs ++ [.int .i64 5, .int .i64 0, .int .i64 0, .string ⟨#[]⟩, .int .i64 c, .slice none 0 0]) → (∀ b, b < W.heap.size → (Value.slice (tb i).ks.a (tb i).ks.len (tb i).ks.cap).ownBlock ≠ some b → w3.heap[b]? = W.heap[b]?) → W.heap.size ≤ w3.heap.size →
        (∀ k, v.ownBlock = some k → (Value.slice (tb i).ks.a (tb i).ks.len (tb i).ks.cap).ownBlock = some k ∨ W.heap.size ≤ k) → ∃ t', TabsAt (w3.setCell ⟨g, i * 6 + 5, none⟩ v) ⟨some ⟨g, 0, none⟩, n, cap⟩ (put tb i t') ∧ (CkS (tb i) → CkS t') := by
  have hop := h
  obtain ⟨h1, h2, h3, h4, h5, h6⟩ := h
  obtain ⟨wr, xb, pb, nm0, s1, s2, s3, s4, cl, ul, fl, rs, et, hr, p1, p2, p3, p4, p5, l1, l2, l3, l4, e6, p7, p8⟩ := tbO_open h2
  generalize hti : tb i = ti at *
  subst et
  have hF : W.ownsRow lo 30 6 s4.v rs.length (flatR rs) := own_block hr.k.1 fun k hk => p8 _ (hr.k.1.lt k hk).1 (by have := (hr.k.1.lt k hk).2; omega)
  refine ⟨flatR rs, by show W.ownsRow lo _ 6 s4.v s4.len _; rw [l4]; exact hF, fun w3 c v hwf hown hw hs hat => ?_⟩
  have hown2 : w3.ownsRow lo 30 6 v (rs.length + 1) (flatR rs ++ [.int .i64 5, .int .i64 0, .int .i64 0, .string ⟨#[]⟩, .int .i64 c, .slice none 0 0]) := by
    have e : (tbG nm0 s1 cl pb s2 ul s3 fl s4 (rs.map Rec.e)).ks.len = rs.length := l4
    rw [e] at hown
    exact hown
  have hw2 : ∀ b, b < W.heap.size → s4.v.ownBlock ≠ some b → w3.heap[b]? = W.heap[b]? := hw
  have hat2 : ∀ k, v.ownBlock = some k → s4.v.ownBlock = some k ∨ W.heap.size ≤ k := hat
  have hw3 : ∀ b, b < W.heap.size → ¬ (lo ≤ b ∧ b < hh) → w3.heap[b]? = W.heap[b]? := fun b hb hn => hw2 b hb fun e => hn ⟨(hr.k.1.lt b e).1, by have := (hr.k.1.lt b e).2; omega⟩
  obtain ⟨r1, r2⟩ := row_keep (o := i * 6 + 5) (v := v) hop hw3 hs
  have hg0 : ∃ cur, w3.heap[g]? = some (.cells cur 53) := by
    rcases r1.2 with ⟨h', _⟩ | ⟨g', cap', cur, h', _, hg, _⟩
    · simp at h'
    · simp only [Value.slice.injEq, Option.some.injEq, Addr.mk.injEq, and_true, true_and] at h'
      obtain ⟨rfl, rfl⟩ := h'
      exact ⟨cur, hg⟩
  obtain ⟨cur, hg⟩ := hg0
  have hkeep : ∀ b, b ≠ g → (w3.setCell ⟨g, i * 6 + 5, none⟩ v).heap[b]? = w3.heap[b]? := fun b hb => Below.heap_setCell _ _ _ _ hb
  have hng : ∀ b, lo ≤ b → b < hh → b ≠ g := fun b hb1 hb2 e => h5 g rfl ⟨by omega, by omega⟩
  have hin : ∀ b, lo ≤ b → b < hh → s4.v.ownBlock ≠ some b → (w3.setCell ⟨g, i * 6 + 5, none⟩ v).heap[b]? = wr.heap[b]? := fun b hb1 hb2 hne => (hkeep b (hng b hb1 hb2)).trans ((hw2 b (by omega) hne).trans (p8 b hb1 hb2))
  have hsz : (w3.setCell ⟨g, i * 6 + 5, none⟩ v).heap.size = w3.heap.size := by simp [World.setCell]
  have hD := hr.dropK (w' := w3.setCell ⟨g, i * 6 + 5, none⟩ v) (fun b hb1 hb2 hne => hin b hb1 (by omega) hne) (by omega)
  have hpb : (w3.setCell ⟨g, i * 6 + 5, none⟩ v).heap[pb]? = some (.cells #[.int .i64 0] 3) := (hin pb p1 (by have := (Array.getElem?_eq_some_iff.1 p2).1; omega) fun e => own_ne_z hr.k.1 p2 (by decide) pb e rfl).trans p2
  obtain ⟨q1, q2, q3, q4, f1, f2, f3, f4, _, _, _, _, hI⟩ := tbI_of hD p3 p1 hpb p4 p5
  obtain rfl := sl_inj f1
  obtain rfl := sl_inj f2
  obtain rfl := sl_inj f3
  have hA := hI.at_
  have hfine : (Ex.mk 5 0 0 ⟨#[]⟩ c []).fine := ⟨show (Lit.int .i64 5).wf = true by decide, show (Lit.int .i64 0).wf = true by decide, show (Lit.int .i64 0).wf = true by decide, Nat.zero_le _, hwf⟩
  have hK : RowK (w3.setCell ⟨g, i * 6 + 5, none⟩ v) (fun _ => True) lo v (rs ++ [(⟨Ex.mk 5 0 0 ⟨#[]⟩ c [], none, 0, 0⟩ : Rec)]) := by
    refine ⟨by rw [flatR_append, List.length_append]; exact own_set hown2 (own_ne_z hown2 hg (by decide)), fun r hr2 => ?_⟩
    rcases List.mem_append.1 hr2 with hr3 | hr3
    · obtain ⟨a1, a2⟩ := hr.k.2 r hr3
      refine ⟨a1, a2.carry (by omega) fun b hlt hok => ⟨⟨trivial, fun e => ?_⟩, hin b hok.1.1 (by omega) hok.2⟩⟩
      rcases hat2 b e with e2 | e2
      · exact hok.2 e2
      · omega
    · simp only [List.mem_cons, List.not_mem_nil, or_false] at hr3
      subst hr3
      exact ⟨hfine, .none⟩
  obtain ⟨ka, kc, ke, hkids⟩ := hK.kids (ok' := fun _ => True) (fun _ _ => trivial) fun _ _ => trivial
  subst ke
  refine ⟨tbG nm0 s1 cl pb s2 ul s3 fl ⟨ka, (rs ++ [(⟨Ex.mk 5 0 0 ⟨#[]⟩ c [], none, 0, 0⟩ : Rec)]).length, kc⟩ ((rs ++ [(⟨Ex.mk 5 0 0 ⟨#[]⟩ c [], none, 0, 0⟩ : Rec)]).map Rec.e), put_row r1 hi (by omega) (by rw [hti]; rfl) ⟨hA.name, hA.cols, hA.colf, hA.prim, hA.uqs, hA.uqn, hA.fks, hA.fkn, hkids⟩ r2, fun hc e he => ?_⟩
  have he2 : e ∈ (rs ++ [(⟨Ex.mk 5 0 0 ⟨#[]⟩ c [], none, 0, 0⟩ : Rec)]).map Rec.e := he
  rw [List.map_append] at he2
  rcases List.mem_append.1 he2 with he3 | he3
  · exact hc e he3
  · simp only [List.map_cons, List.map_nil, List.mem_cons, List.not_mem_nil, or_false] at he3
    subst he3
    exact ⟨by simp [sizE, sizL], by simp [depE, depL]⟩
end Go.Proofs.YtpddkljedhghkaaDoor
set_option linter.unusedVariables false
namespace Go.Proofs.YtpddkljedhghkaaDoor
open Go Go.RowKit Go.Deep
theorem ExprOf.use {d B : Nat} (h : ExprOf d B) (T m : Nat) (ty : List Int) (k : Int) (a : Option Addr) (len cap : Nat) (w : World) (dd : Int) (hd : dd = (d : Nat)) (h1 : TapeAt T m w) (h2 : IntsAt T w a len cap ty) (h3 : IsTy k) (h4 : m + B ≤ 2 ^ 60) (h5 : len ≤ 1000) :
    Calls Tryd.prog 9 #[.pointer (some ⟨T, 0, none⟩), .slice a len cap, .int .i64 k, .int .i64 dd] w fun r w' => MadeBy T (m + B) d ty k w r w' := by
  subst hd; exact h.call T m ty k a len cap w h1 h2 h3 h4 h5
theorem OpsTab.tp {T : Nat} {w w' : World} (h : OpsTab w) (hb : Tp T w w') (hT : 0 ≠ T) : OpsTab w' := by
  refine ⟨Nat.lt_of_lt_of_le h.1 hb.size, fun i hi => ?_⟩
  obtain ⟨h0, h1, h2, h3, h4⟩ := h.2 i hi
  have key : ∀ o, w'.cell? ⟨0, o, none⟩ = w.cell? ⟨0, o, none⟩ := fun o => hb.cell o h.1 hT
  exact ⟨by rw [key]; exact h0, by rw [key]; exact h1, by rw [key]; exact h2, by rw [key]; exact h3, by rw [key]; exact h4⟩
/-- An argument list of numbers. -/
def NumsAt (w : World) (a : Option Addr) (len : Nat) : Prop := len ≤ maxLen ∧ (len = 0 ∨ ∃ b off, a = some ⟨b, off, none⟩ ∧ b < w.heap.size ∧ ∀ i, i < len → ∃ n : Int, (Lit.int .i64 n).wf = true ∧ w.cell? ⟨b, off + i, none⟩ = some (.int .i64 n))
theorem tape_new {w : World} {a : Option Addr} {len cap : Nat} (h : NumsAt w a len) : TapeAt w.heap.size 0 (w.alloc (.cells #[.slice a len cap, .int .i64 0] 25)) := by
  refine ⟨a, len, cap, 0, heap_alloc_new w _, Nat.le_refl _, h.1, h.2.imp id ?_⟩
  rintro ⟨b, off, rfl, hb, hc⟩
  refine ⟨b, off, rfl, hb, fun i hi => ?_⟩
  obtain ⟨n, hn, hq⟩ := hc i hi
  exact ⟨n, hn, by rw [World.cell?_of_block (w := w) (Below.heap_alloc _ _ _ hb)]; exact hq⟩
end Go.Proofs.YtpddkljedhghkaaDoor
set_option linter.unusedVariables false
namespace Go.Proofs.YtpddkljedhghkaaDoor
open Go Go.RowKit Go.Deep
theorem made_cols {i : Nat} {t : Tb} (h : MadeTb i t) : 1 ≤ t.cs.len ∧ t.cs.len ≤ 6 ∧ t.us.len ≤ 1 ∧ t.fs.len ≤ 2 ∧ t.ks.len ≤ 1 := by
  obtain ⟨fr, ff, ty, nl, fnl, tgt, ul, fl, ck, s1, s2, s3, s4, pb, rfl, h1, h2, h3, h4, h5, h6, h7, _, _, _, h8, _, h9, _⟩ := h
  show 1 ≤ s1.len ∧ s1.len ≤ 6 ∧ s2.len ≤ 1 ∧ s3.len ≤ 2 ∧ s4.len ≤ 1
  omega
theorem sp_row {Z : World} {lo0 i sn sc : Nat} {sa : Option Addr} {tb : Nat → Tb} (h : SchO Z lo0 ⟨sa, sn, sc⟩ tb) (hi : i < sn) : ∃ g, sa = some ⟨g, 0, none⟩ ∧ g < Z.heap.size ∧ lo0 ≤ g ∧ (∀ j, Z.frozen? ⟨g, j, none⟩ = false) ∧ ∀ j, j < 6 → Z.cell? ⟨g, i * 6 + j, none⟩ = ((tb i).cells)[j]? := by
  obtain ⟨h1, _⟩ := h
  obtain ⟨k, rfl⟩ : ∃ k, sn = k + 1 := ⟨sn - 1, by omega⟩
  obtain ⟨g, c, e⟩ := own_slice_z h1
  simp only [Sl.v, Value.slice.injEq] at e
  obtain ⟨rfl, _, rfl⟩ := e
  have hl := h1.lt g rfl
  refine ⟨g, rfl, hl.2, hl.1, fun j => h1.frozenAt j, fun j hj => ?_⟩
  rw [h1.cellAt (i * 6 + j) (by show i * 6 + j < (k + 1) * 6; omega)]
  exact row_flat i hi j hj
theorem col_flat (col : Nat → Cl) {n : Nat} (i : Nat) (hi : i < n) (j : Nat) (hj : j < 3) : ((List.range n).flatMap fun j => (col j).cells)[i * 3 + j]? = ((col i).cells)[j]? := by
  have h1 := flat_at (fun j => (col j).cells) 3 (fun _ => rfl) 0 (List.range n) i (by simpa using hi) j hj
  rw [h1]
  simp [List.getD, hi]
theorem cells_at_z (w : World) (l : List Value) (t : TypeId) (n : Nat) (hn : n = w.heap.size) : ∀ j u, l[j]? = some u → (w.alloc (.cells l.toArray t)).cell? ((⟨n, 0, none⟩ : Addr).add j) = some u := by
  subst hn
  exact cells_new' w l t
theorem own_heap {w : World} {base k n n' g cap : Nat} {e : TypeId} {xs : List Value} (h : w.ownsRow base e k (.slice (some ⟨g, 0, none⟩) n cap) n' xs) : ∃ cur, w.heap[g]? = some (.cells cur e) := by
  rcases h.2 with ⟨h', _⟩ | ⟨g', cap', cur, h', _, hg, _⟩
  · simp at h'
  · simp only [Value.slice.injEq, Option.some.injEq, Addr.mk.injEq, and_true] at h'
    obtain ⟨rfl, _⟩ := h'
    exact ⟨cur, hg⟩
theorem set_comm {w : World} {a b i j : Nat} {u v : Value} (h : a ≠ b) : (w.setCell ⟨a, i, none⟩ u).setCell ⟨b, j, none⟩ v = (w.setCell ⟨b, j, none⟩ v).setCell ⟨a, i, none⟩ u := by
  simp only [World.setCell]
  congr 1
  apply Array.ext_getElem?
  intro k
  simp only [Array.getElem?_modify]
  by_cases e1 : b = k
  · have e2 : ¬ a = k := fun e => h (e.trans e1.symm)
    simp only [if_pos e1, if_neg e2]
  · simp only [if_neg e1]
theorem froz_of {w w' : World} {g o : Nat} (h : w'.heap[g]? = w.heap[g]?) (hf : w.frozen? ⟨g, o, none⟩ = false) : w'.frozen? ⟨g, o, none⟩ = false := by
  simp only [World.frozen?] at hf ⊢
  rw [h]
  exact hf
end Go.Proofs.YtpddkljedhghkaaDoor
