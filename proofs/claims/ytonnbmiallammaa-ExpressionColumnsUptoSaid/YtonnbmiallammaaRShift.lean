/-
  The reference's Shift: for all expressions whose lists are short, a new tree with the columns shifted.
-/
import Derived.Test.YtonnbmiallammaaShift
import Derived.Test.YtonnbmiallammaaLin
set_option linter.unusedVariables false
namespace Go.Proofs.Ytonnbmiallammaa
open Go Go.RowKit Go.Deep
/-- One walk of the text's order serves every order, in whatever class the region's start is. -/
theorem wp_region_lin_in {P : Program} {C : World → Prop} {id : Nat} {Q : Exit → Act → World → Prop} {a : Act} {w : World} {l : List Oper} (hC : ∀ x : Ext w, C x.val) (hm : P.follows .mixedOrders = true) (hB : linB .any l.toArray = true)
    (h : ∀ x : Ext w, wpLin P l.toArray C (fun a' w' => Q .normal a' w') l a x.val) : (Code.region id l.toArray true).wp P Q a w := by
  obtain ⟨x, hx⟩ := Cls.start w
  refine wp_region_any hm ?_
  have h1 := lexI_of_lin (C := C) l 0 a x.val (by simp) (h x)
  rw [hx]
  refine wpAny_of_lexI (C := C) (Q := fun a' w' => Q .normal a' w') hB (fun _ _ h => h) _ (List.range' 0 l.length) _ a x.val (by simp) List.pairwise_lt_range' (fun j => ?_) (by simp) ?_ (.inr (hC x)) h1
  · rw [List.mem_range'_1]
    simp only [List.size_toArray]
    constructor
    · intro hj
      have : j < l.length := by omega
      exact ⟨this, by simp [this]⟩
    · intro hj; omega
  · intro j oj hj hl
    rw [getD_replicate_false] at hl
    cases hl
/-- The six cells of a block that is known whole. -/
theorem six6 {W : World} {b : Nat} {a0 a1 a2 a3 a4 a5 : Value} {t : TypeId} (h : W.heap[b]? = some (.cells #[a0, a1, a2, a3, a4, a5] t)) :
    b < W.heap.size ∧ W.frozen? ⟨b, 0, none⟩ = false ∧ W.frozen? ⟨b, 1, none⟩ = false ∧ W.frozen? ⟨b, 2, none⟩ = false ∧ W.frozen? ⟨b, 3, none⟩ = false ∧ W.frozen? ⟨b, 4, none⟩ = false ∧ W.frozen? ⟨b, 5, none⟩ = false ∧
    W.cell? ⟨b, 0, none⟩ = some a0 ∧ W.cell? ⟨b, 1, none⟩ = some a1 ∧ W.cell? ⟨b, 2, none⟩ = some a2 ∧ W.cell? ⟨b, 3, none⟩ = some a3 ∧ W.cell? ⟨b, 4, none⟩ = some a4 ∧ W.cell? ⟨b, 5, none⟩ = some a5 := by
  refine ⟨(Array.getElem?_eq_some_iff.1 h).1, by simp [World.frozen?, h], by simp [World.frozen?, h], by simp [World.frozen?, h], by simp [World.frozen?, h], by simp [World.frozen?, h], by simp [World.frozen?, h], ?_, ?_, ?_, ?_, ?_, ?_⟩
  all_goals
    rw [cell_of_row _ _ _ _ _ (0, 0) h]
    rfl
/-- A later world in which three blocks are as they were. -/
structure Keep3 (p q r : Nat) (w : World) where
  val : World
  same : ∀ b, (b = p ∨ b = q ∨ b = r) → val.heap[b]? = w.heap[b]?
instance (p q r : Nat) (w : World) : Nonempty (Keep3 p q r w) := ⟨⟨w, fun _ _ => rfl⟩⟩
@[go_sem] theorem Keep3.cell0 {p q r : Nat} {w : World} (x : Keep3 p q r w) (o : Nat) : x.val.cell? ⟨p, o, none⟩ = w.cell? ⟨p, o, none⟩ := World.cell?_of_block (w := w) (x.same p (.inl rfl))
@[go_sem] theorem Keep3.cell1 {p q r : Nat} {w : World} (x : Keep3 p q r w) (o : Nat) : x.val.cell? ⟨q, o, none⟩ = w.cell? ⟨q, o, none⟩ := World.cell?_of_block (w := w) (x.same q (.inr (.inl rfl)))
@[go_sem] theorem Keep3.cell2 {p q r : Nat} {w : World} (x : Keep3 p q r w) (o : Nat) : x.val.cell? ⟨r, o, none⟩ = w.cell? ⟨r, o, none⟩ := World.cell?_of_block (w := w) (x.same r (.inr (.inr rfl)))
theorem own_slice {w : World} {base size n : Nat} {e : TypeId} {v : Value} {xs : List Value} (h : w.ownsRow base e size v n xs) : ∃ a n c, v = .slice a n c := by
  rcases h.2 with ⟨rfl, _⟩ | ⟨g, cap, cur, rfl, _⟩
  · exact ⟨_, _, _, rfl⟩
  · exact ⟨_, _, _, rfl⟩
theorem own_set {w : World} {base size n : Nat} {e : TypeId} {v : Value} {xs : List Value} (h : w.ownsRow base e size v n xs) {p : Addr} {u : Value} (hp : p.block < base) : (w.setCell p u).ownsRow base e size v n xs := by
  refine ⟨h.1, h.2.imp id ?_⟩
  rintro ⟨g, cap, cur, hv, hg, hh, rest⟩
  exact ⟨g, cap, cur, hv, hg, (Below.heap_setCell _ _ _ _ (by omega)).trans hh, rest⟩
theorem RowOf.set {w : World} {base : Nat} {v : Value} {rs : List Rec} (h : RowOf w base v rs) {p : Addr} {u : Value} (hp : p.block < base) : RowOf (w.setCell p u) base v rs :=
  ⟨own_set h.1 hp, fun r hr => ⟨(h.2 r hr).1, (h.2 r hr).2.set fun b hb => by have := hb.1; omega⟩⟩
theorem heap_third (w : World) (o1 o2 o3 : Obj) : (((w.alloc o1).alloc o2).alloc o3).heap[w.heap.size + 1 + 1]? = some o3 := by
  have e : ((w.alloc o1).alloc o2).heap.size = w.heap.size + 1 + 1 := by simp
  rw [← e]
  exact heap_alloc_new _ _
def RShiftOf (e : Ex) : Prop := ∀ (d : Int) (a : Option Addr) (len cap : Nat) (ok : Nat → Prop) (w : World), Kids w ok a len cap e.kids → Slim e →
    Calls Try.prog 12 #[.agg #[.int .i64 (e).op, .int .i64 (e).ty, .int .i64 (e).num, .string (e).text, .int .i64 (e).col, .slice a len cap], .int .i64 d] w fun r w' => ShiftIs e d len w r w'
set_option maxHeartbeats 8000000 in
set_option maxRecDepth 20000 in
theorem rShift_calls : ∀ e : Ex, RShiftOf e := by
  refine Ex.ind fun e ih => ?_
  intro d a len cap ok w hk hsl
  obtain ⟨i0, hi, hz0, hz1, hz2⟩ := info_parts infoEx
  have hlen := hk.len_eq
  have hle := hk.le
  have hmax := hk.max
  have h12 := hsl.le
  unfold maxLen at hmax
  have HL := Lib.hid hlen
  have hl12 : len ≤ 12 := by omega
  clear hlen h12
  by_cases h5 : e.op = 5
  · have b5 : (e.op == 5) = true := by simpa using h5
    have HC : Hid ((shiftE e d).col = wrap64 (e.col + d)) := Lib.hid (by rw [shiftE_col, if_pos h5])
    clear h5
    go_enter Try.func12, Try.ntmps12
    go_wp2_with fail
    go_loopw [6] (fun i wr => ∃ (j : Nat) (rs : List Rec) (v : Value) (x : Ext ((w.alloc (.cells #[.int .i64 e.op, .int .i64 e.ty, .int .i64 e.num, .string e.text, .int .i64 e.col, .slice a len cap] 24)).alloc (.cells #[.int .i64 0, .int .i64 0, .int .i64 0, .string ⟨#[]⟩, .int .i64 0, .slice none 0 0] 24))), wr = x.val ∧ j ≤ len ∧ i = .int .i64 j ∧ x.val.heap[w.heap.size + 1 + 1]? = some (.cells #[.int .i64 e.op, .int .i64 e.ty, .int .i64 e.num, .string e.text, .int .i64 (wrap64 (e.col + d)), v] 24) ∧ RowOf x.val (w.heap.size + 3) v rs ∧ rs.map Rec.e = (e.kids.take j).map (shiftE · d)) (fun i _ => len - (intOf i).toNat)
    case atStart =>
      refine ⟨0, [], .slice none 0 0, ⟨((w.alloc (.cells #[.int .i64 e.op, .int .i64 e.ty, .int .i64 e.num, .string e.text, .int .i64 e.col, .slice a len cap] 24)).alloc (.cells #[.int .i64 0, .int .i64 0, .int .i64 0, .string ⟨#[]⟩, .int .i64 0, .slice none 0 0] 24)).alloc (.cells #[.int .i64 e.op, .int .i64 e.ty, .int .i64 e.num, .string e.text, .int .i64 (wrap64 (e.col + d)), .slice none 0 0] 24), ?_⟩, rfl, Nat.zero_le _, rfl, heap_third _ _ _ _, .nil _ _, rfl⟩
      repeat first | with_reducible exact Below.refl _ _ | with_reducible refine Below.setCell ?_ (by first | omega | (simp; done) | (simp; omega)) _ | with_reducible refine Below.alloc ?_ (by first | omega | (simp; done) | (simp; omega)) _ | with_reducible refine Below.drew ?_ | with_reducible refine Ext.on _ ?_ (by first | omega | (simp; done) | (simp; omega))
    case round =>
      obtain ⟨j, rs, v, x, rfl, hj, rfl, hout, hrow, hmap⟩ := hrel
      have HX := Lib.hid hout
      have HR := Lib.hid hrow
      have HM := Lib.hid hmap
      have hrl : rs.length = j := by have := congrArg List.length hmap; simp [HL.out] at this; omega
      have HRL := Lib.hid hrl
      clear hout hrow hmap hrl
      have xs := x.size
      simp at xs
      obtain ⟨x0, f0, f1, f2, f3, f4, f5, c0, c1, c2, c3, c4, c5⟩ := six6 HX.out
      have hx3 : w.heap.size + 3 ≤ x.val.heap.size := by omega
      by_cases hlt : j < len
      · obtain ⟨a1, len1, cap1, ⟨b, off, rfl, hb, hok, q0, q1, q2, q3, q4, q5⟩, hfine, hk1⟩ := hk.at_ hlt
        obtain ⟨l1, l2, l3, l4, l5⟩ := x.lts (b := b) (by simp; omega)
        have hb1 : b < w.heap.size + 1 + 1 := by omega
        have hmem := getD_mem (l := e.kids) (i := j) (by rw [HL.out]; exact hlt)
        have HF : Hid ((shiftE (e.kids.getD j Ex.z) d).fine) := Lib.hid (shiftE_fine d hfine)
        have C1 : Hid (∀ W, Below w.heap.size w W → Calls Try.prog 12 #[.agg #[.int .i64 (e.kids.getD j Ex.z).op, .int .i64 (e.kids.getD j Ex.z).ty, .int .i64 (e.kids.getD j Ex.z).num, .string (e.kids.getD j Ex.z).text, .int .i64 (e.kids.getD j Ex.z).col, .slice a1 len1 cap1], .int .i64 d] W fun r w' => ShiftIs (e.kids.getD j Ex.z) d len1 W r w') := Lib.hid (fun W hW => ih _ hmem d a1 len1 cap1 ok W (hk1.later hW) (hsl.kid _ hmem))
        have HTK := Lib.hid (take_map (l := e.kids) (j := j) d (by rw [HL.out]; exact hlt))
        clear hk hk1 hfine hmem ih hsl
        generalize e.kids.getD j Ex.z = kid at *
        go_wp2_with fail
        refine wp_region_lin_in (C := fun W => ∃ y : Keep3 w.heap.size (w.heap.size + 1 + 1) b x.val, W = y.val) (fun y => ⟨⟨y.val, fun k hk => y.block (by omega)⟩, rfl⟩) (by kernel_rfl) (by kernel_rfl) ?_
        intro y0
        have y0s := y0.size
        repeat (refine lin_calm rfl ?_; intro KK hKK; go_big_quiet_step (fail); refine wpQuiet_nil ?_; refine hKK _ ?_; clear hKK KK)
        refine lin_free rfl ?_
        intro KK hKK
        go_wp2_with (go_at_call 12; ((with_reducible refine (C1.out _ ?_).mono ?_); (· (repeat first | with_reducible exact Below.refl _ _ | with_reducible refine Below.setCell ?_ (by first | omega | (simp; done) | (simp; omega)) _ | with_reducible refine Below.alloc ?_ (by first | omega | (simp; done) | (simp; omega)) _ | with_reducible refine Below.drew ?_ | with_reducible refine Ext.on _ ?_ (by first | omega | (simp; done) | (simp; omega)))); rintro r w2 hq; obtain ⟨a2, cap2, rfl, hk2, z, rfl⟩ := hq; have HK2 := Lib.hid hk2; clear hk2; have zs := z.size))
        have HU : Hid (∀ k, (k = w.heap.size ∨ k = w.heap.size + 1 + 1 ∨ k = b) → z.val.heap[k]? = x.val.heap[k]?) := Lib.hid (fun k hk => (z.block (by omega)).trans (y0.block (by omega)))
        refine hKK _ _ (.inr ⟨⟨_, HU.out⟩, rfl⟩) ?_
        clear hKK KK
        refine lin_free rfl ?_
        intro KK hKK
        go_wp2_with fail
        refine hKK _ _ (.inr ⟨⟨_, fun k hk => (Below.heap_alloc _ _ _ (by omega)).trans (HU.out k hk)⟩, rfl⟩) ?_
        clear hKK KK
        refine lin_free rfl ?_
        intro KK hKK
        go_wp2_with (at_builtin; refine wpList_append_own_at _ rfl _ _ 22 rfl (w.heap.size + 3) 24 i0 (.agg #[.int .i64 0, .int .i64 0, .int .i64 0, .string ⟨#[]⟩, .int .i64 0, .slice none 0 0]) 6 72 Try.underlying22 hi hz0 hz1 hz2 rfl (by decide) v rs.length (flatR rs) rfl (own_later HR.out.1 (by repeat first | with_reducible exact Below.refl _ _ | with_reducible refine Below.setCell ?_ (by first | omega | (simp; done) | (simp; omega)) _ | with_reducible refine Below.alloc ?_ (by first | omega | (simp; done) | (simp; omega)) _ | with_reducible refine Below.drew ?_ | with_reducible refine Ext.on _ ?_ (by first | omega | (simp; done) | (simp; omega)))) ⟨z.val.heap.size, 0, none⟩ 1 1 (Rec.cells ⟨shiftE kid d, a2, len1, cap2⟩) rfl rfl (cells_new _ _ _) (Rec.one _) (by have := HRL.out; unfold maxLen; omega) (by have := HRL.out; omega) (by simp; omega) ?_; intro v3 w3 hown3 hg3 _ hat3; have HO3 := Lib.hid hown3; have HG := Lib.hid hg3; have HA := Lib.hid hat3; clear hown3 hg3 hat3)
        obtain ⟨a5, n5, cc5, rfl⟩ := own_slice HO3.out
        have HMD : Hid (∀ k, (k = w.heap.size ∨ k = w.heap.size + 1 + 1 ∨ k = b) → w3.heap[k]? = x.val.heap[k]?) := Lib.hid (fun k hk => (HG.out.block k (by simp; omega) (fun e' => by have := (HR.out.1.lt k e'.symm).1; omega)).trans ((Below.heap_alloc _ _ _ (by omega)).trans (HU.out k hk)))
        refine hKK _ _ (.inr ⟨⟨_, HMD.out⟩, rfl⟩) ?_
        clear hKK KK
        repeat (refine lin_calm rfl ?_; intro KK hKK; go_big_quiet_step (fail); refine wpQuiet_nil ?_; refine hKK _ ?_; clear hKK KK)
        refine lin_free rfl ?_
        intro KK hKK
        clear x0 f0 f1 f2 f3 f4 f5 c0 c1 c2 c3 c4 c5
        obtain ⟨x0, f0, f1, f2, f3, f4, f5, c0, c1, c2, c3, c4, c5⟩ := six6 ((HMD.out (w.heap.size + 1 + 1) (.inr (.inl rfl))).trans HX.out)
        go_wp2_with fail
        refine hKK _ _ (.inl trivial) ?_
        clear hKK KK
        refine lin_nil ?_
        go_wp2_with fail
        go_roundw
        case rel =>
          refine ⟨j + 1, rs ++ [⟨shiftE kid d, a2, len1, cap2⟩], .slice a5 n5 cc5, ⟨w3.setCell ⟨w.heap.size + 1 + 1, 5, none⟩ (.slice a5 n5 cc5), Below.setCell (Below.grown (w := z.val.alloc _) ?_ HG.out (by simp; omega) (fun k hk => by have := (HR.out.1.lt k hk).1; simp; omega)) (by simp) _⟩, rfl, by omega, by go_num, ?_, ?_, ?_⟩
          · repeat first | with_reducible exact Below.refl _ _ | with_reducible refine Below.setCell ?_ (by first | omega | (simp; done) | (simp; omega)) _ | with_reducible refine Below.alloc ?_ (by first | omega | (simp; done) | (simp; omega)) _ | with_reducible refine Below.drew ?_ | with_reducible refine Ext.on _ ?_ (by first | omega | (simp; done) | (simp; omega))
          · have h := (HMD.out (w.heap.size + 1 + 1) (.inr (.inl rfl))).trans HX.out
            simp only [World.setCell, Array.getElem?_modify, h]
            simp
          · refine RowOf.set (RowOf.push HR.out (by omega) ?_ HF.out (HK2.out.carry (Nat.le_refl _) fun k _ hk => ⟨by have h : y0.val.heap.size ≤ k := hk; show x.val.heap.size ≤ k; omega, rfl⟩) HO3.out HG.out HA.out) (by show w.heap.size + 1 + 1 < w.heap.size + 3; omega)
            repeat first | with_reducible exact Below.refl _ _ | with_reducible refine Below.setCell ?_ (by first | omega | (simp; done) | (simp; omega)) _ | with_reducible refine Below.alloc ?_ (by first | omega | (simp; done) | (simp; omega)) _ | with_reducible refine Below.drew ?_ | with_reducible refine Ext.on _ ?_ (by first | omega | (simp; done) | (simp; omega))
          · rw [List.map_append, HM.out, HTK.out]; rfl
        case measure => simp [intOf]; omega
      · have e3 : rs.length = len := by have := HRL.out; omega
        have e4 : rs.map Rec.e = (shiftE e d).kids := by rw [HM.out, List.take_of_length_le (by rw [HL.out]; omega), shiftE_kids]
        obtain ⟨a3, cap3, hv, hk3⟩ := HR.out.kids
        rw [e3] at hv hk3
        rw [e4] at hk3
        have HK3 := Lib.hid hk3
        clear HR HM HRL e3 e4 hk3 hk ih hsl
        subst hv
        have s0 : (x.val.cell? ⟨w.heap.size + 1, 0, none⟩).isSome = true := by rw [x.cell 0 (by simp)]; simp [go_sem]
        have s1 : (x.val.cell? ⟨w.heap.size + 1, 1, none⟩).isSome = true := by rw [x.cell 1 (by simp)]; simp [go_sem]
        have s2 : (x.val.cell? ⟨w.heap.size + 1, 2, none⟩).isSome = true := by rw [x.cell 2 (by simp)]; simp [go_sem]
        have s3 : (x.val.cell? ⟨w.heap.size + 1, 3, none⟩).isSome = true := by rw [x.cell 3 (by simp)]; simp [go_sem]
        have s4 : (x.val.cell? ⟨w.heap.size + 1, 4, none⟩).isSome = true := by rw [x.cell 4 (by simp)]; simp [go_sem]
        have s5 : (x.val.cell? ⟨w.heap.size + 1, 5, none⟩).isSome = true := by rw [x.cell 5 (by simp)]; simp [go_sem]
        go_wp2_with fail
        refine ret_ex rfl ?_
        simp [results, Try.results12, go_sem]
        refine ⟨a3, cap3, by rw [shiftE_op, shiftE_ty, shiftE_num, shiftE_text, HC.out], ?_, Cls.of ?_⟩
        · exact ((((((HK3.out.set (fun b hb => by simp; omega)).set (fun b hb => by simp; omega)).set (fun b hb => by simp; omega)).set (fun b hb => by simp; omega)).set (fun b hb => by simp; omega)).set (fun b hb => by simp; omega)).carry (Nat.le_refl _) fun b _ hb => ⟨by omega, rfl⟩
        · repeat first | with_reducible exact Below.refl _ _ | with_reducible refine Below.setCell ?_ (by first | omega | (simp; done) | (simp; omega)) _ | with_reducible refine Below.alloc ?_ (by first | omega | (simp; done) | (simp; omega)) _ | with_reducible refine Below.drew ?_ | with_reducible refine Ext.on _ ?_ (by first | omega | (simp; done) | (simp; omega))
  · have b5 : (e.op == 5) = false := by simpa using h5
    have HC : Hid ((shiftE e d).col = e.col) := Lib.hid (by rw [shiftE_col, if_neg h5])
    clear h5
    go_enter Try.func12, Try.ntmps12
    go_wp2_with fail
    go_loopw [6] (fun i wr => ∃ (j : Nat) (rs : List Rec) (v : Value) (x : Ext ((w.alloc (.cells #[.int .i64 e.op, .int .i64 e.ty, .int .i64 e.num, .string e.text, .int .i64 e.col, .slice a len cap] 24)).alloc (.cells #[.int .i64 0, .int .i64 0, .int .i64 0, .string ⟨#[]⟩, .int .i64 0, .slice none 0 0] 24))), wr = x.val ∧ j ≤ len ∧ i = .int .i64 j ∧ x.val.heap[w.heap.size + 1 + 1]? = some (.cells #[.int .i64 e.op, .int .i64 e.ty, .int .i64 e.num, .string e.text, .int .i64 e.col, v] 24) ∧ RowOf x.val (w.heap.size + 3) v rs ∧ rs.map Rec.e = (e.kids.take j).map (shiftE · d)) (fun i _ => len - (intOf i).toNat)
    case atStart =>
      refine ⟨0, [], .slice none 0 0, ⟨((w.alloc (.cells #[.int .i64 e.op, .int .i64 e.ty, .int .i64 e.num, .string e.text, .int .i64 e.col, .slice a len cap] 24)).alloc (.cells #[.int .i64 0, .int .i64 0, .int .i64 0, .string ⟨#[]⟩, .int .i64 0, .slice none 0 0] 24)).alloc (.cells #[.int .i64 e.op, .int .i64 e.ty, .int .i64 e.num, .string e.text, .int .i64 e.col, .slice none 0 0] 24), ?_⟩, rfl, Nat.zero_le _, rfl, heap_third _ _ _ _, .nil _ _, rfl⟩
      repeat first | with_reducible exact Below.refl _ _ | with_reducible refine Below.setCell ?_ (by first | omega | (simp; done) | (simp; omega)) _ | with_reducible refine Below.alloc ?_ (by first | omega | (simp; done) | (simp; omega)) _ | with_reducible refine Below.drew ?_ | with_reducible refine Ext.on _ ?_ (by first | omega | (simp; done) | (simp; omega))
    case round =>
      obtain ⟨j, rs, v, x, rfl, hj, rfl, hout, hrow, hmap⟩ := hrel
      have HX := Lib.hid hout
      have HR := Lib.hid hrow
      have HM := Lib.hid hmap
      have hrl : rs.length = j := by have := congrArg List.length hmap; simp [HL.out] at this; omega
      have HRL := Lib.hid hrl
      clear hout hrow hmap hrl
      have xs := x.size
      simp at xs
      obtain ⟨x0, f0, f1, f2, f3, f4, f5, c0, c1, c2, c3, c4, c5⟩ := six6 HX.out
      have hx3 : w.heap.size + 3 ≤ x.val.heap.size := by omega
      by_cases hlt : j < len
      · obtain ⟨a1, len1, cap1, ⟨b, off, rfl, hb, hok, q0, q1, q2, q3, q4, q5⟩, hfine, hk1⟩ := hk.at_ hlt
        obtain ⟨l1, l2, l3, l4, l5⟩ := x.lts (b := b) (by simp; omega)
        have hb1 : b < w.heap.size + 1 + 1 := by omega
        have hmem := getD_mem (l := e.kids) (i := j) (by rw [HL.out]; exact hlt)
        have HF : Hid ((shiftE (e.kids.getD j Ex.z) d).fine) := Lib.hid (shiftE_fine d hfine)
        have C1 : Hid (∀ W, Below w.heap.size w W → Calls Try.prog 12 #[.agg #[.int .i64 (e.kids.getD j Ex.z).op, .int .i64 (e.kids.getD j Ex.z).ty, .int .i64 (e.kids.getD j Ex.z).num, .string (e.kids.getD j Ex.z).text, .int .i64 (e.kids.getD j Ex.z).col, .slice a1 len1 cap1], .int .i64 d] W fun r w' => ShiftIs (e.kids.getD j Ex.z) d len1 W r w') := Lib.hid (fun W hW => ih _ hmem d a1 len1 cap1 ok W (hk1.later hW) (hsl.kid _ hmem))
        have HTK := Lib.hid (take_map (l := e.kids) (j := j) d (by rw [HL.out]; exact hlt))
        clear hk hk1 hfine hmem ih hsl
        generalize e.kids.getD j Ex.z = kid at *
        go_wp2_with fail
        refine wp_region_lin_in (C := fun W => ∃ y : Keep3 w.heap.size (w.heap.size + 1 + 1) b x.val, W = y.val) (fun y => ⟨⟨y.val, fun k hk => y.block (by omega)⟩, rfl⟩) (by kernel_rfl) (by kernel_rfl) ?_
        intro y0
        have y0s := y0.size
        repeat (refine lin_calm rfl ?_; intro KK hKK; go_big_quiet_step (fail); refine wpQuiet_nil ?_; refine hKK _ ?_; clear hKK KK)
        refine lin_free rfl ?_
        intro KK hKK
        go_wp2_with (go_at_call 12; ((with_reducible refine (C1.out _ ?_).mono ?_); (· (repeat first | with_reducible exact Below.refl _ _ | with_reducible refine Below.setCell ?_ (by first | omega | (simp; done) | (simp; omega)) _ | with_reducible refine Below.alloc ?_ (by first | omega | (simp; done) | (simp; omega)) _ | with_reducible refine Below.drew ?_ | with_reducible refine Ext.on _ ?_ (by first | omega | (simp; done) | (simp; omega)))); rintro r w2 hq; obtain ⟨a2, cap2, rfl, hk2, z, rfl⟩ := hq; have HK2 := Lib.hid hk2; clear hk2; have zs := z.size))
        have HU : Hid (∀ k, (k = w.heap.size ∨ k = w.heap.size + 1 + 1 ∨ k = b) → z.val.heap[k]? = x.val.heap[k]?) := Lib.hid (fun k hk => (z.block (by omega)).trans (y0.block (by omega)))
        refine hKK _ _ (.inr ⟨⟨_, HU.out⟩, rfl⟩) ?_
        clear hKK KK
        refine lin_free rfl ?_
        intro KK hKK
        go_wp2_with fail
        refine hKK _ _ (.inr ⟨⟨_, fun k hk => (Below.heap_alloc _ _ _ (by omega)).trans (HU.out k hk)⟩, rfl⟩) ?_
        clear hKK KK
        refine lin_free rfl ?_
        intro KK hKK
        go_wp2_with (at_builtin; refine wpList_append_own_at _ rfl _ _ 22 rfl (w.heap.size + 3) 24 i0 (.agg #[.int .i64 0, .int .i64 0, .int .i64 0, .string ⟨#[]⟩, .int .i64 0, .slice none 0 0]) 6 72 Try.underlying22 hi hz0 hz1 hz2 rfl (by decide) v rs.length (flatR rs) rfl (own_later HR.out.1 (by repeat first | with_reducible exact Below.refl _ _ | with_reducible refine Below.setCell ?_ (by first | omega | (simp; done) | (simp; omega)) _ | with_reducible refine Below.alloc ?_ (by first | omega | (simp; done) | (simp; omega)) _ | with_reducible refine Below.drew ?_ | with_reducible refine Ext.on _ ?_ (by first | omega | (simp; done) | (simp; omega)))) ⟨z.val.heap.size, 0, none⟩ 1 1 (Rec.cells ⟨shiftE kid d, a2, len1, cap2⟩) rfl rfl (cells_new _ _ _) (Rec.one _) (by have := HRL.out; unfold maxLen; omega) (by have := HRL.out; omega) (by simp; omega) ?_; intro v3 w3 hown3 hg3 _ hat3; have HO3 := Lib.hid hown3; have HG := Lib.hid hg3; have HA := Lib.hid hat3; clear hown3 hg3 hat3)
        obtain ⟨a5, n5, cc5, rfl⟩ := own_slice HO3.out
        have HMD : Hid (∀ k, (k = w.heap.size ∨ k = w.heap.size + 1 + 1 ∨ k = b) → w3.heap[k]? = x.val.heap[k]?) := Lib.hid (fun k hk => (HG.out.block k (by simp; omega) (fun e' => by have := (HR.out.1.lt k e'.symm).1; omega)).trans ((Below.heap_alloc _ _ _ (by omega)).trans (HU.out k hk)))
        refine hKK _ _ (.inr ⟨⟨_, HMD.out⟩, rfl⟩) ?_
        clear hKK KK
        repeat (refine lin_calm rfl ?_; intro KK hKK; go_big_quiet_step (fail); refine wpQuiet_nil ?_; refine hKK _ ?_; clear hKK KK)
        refine lin_free rfl ?_
        intro KK hKK
        clear x0 f0 f1 f2 f3 f4 f5 c0 c1 c2 c3 c4 c5
        obtain ⟨x0, f0, f1, f2, f3, f4, f5, c0, c1, c2, c3, c4, c5⟩ := six6 ((HMD.out (w.heap.size + 1 + 1) (.inr (.inl rfl))).trans HX.out)
        go_wp2_with fail
        refine hKK _ _ (.inl trivial) ?_
        clear hKK KK
        refine lin_nil ?_
        go_wp2_with fail
        go_roundw
        case rel =>
          refine ⟨j + 1, rs ++ [⟨shiftE kid d, a2, len1, cap2⟩], .slice a5 n5 cc5, ⟨w3.setCell ⟨w.heap.size + 1 + 1, 5, none⟩ (.slice a5 n5 cc5), Below.setCell (Below.grown (w := z.val.alloc _) ?_ HG.out (by simp; omega) (fun k hk => by have := (HR.out.1.lt k hk).1; simp; omega)) (by simp) _⟩, rfl, by omega, by go_num, ?_, ?_, ?_⟩
          · repeat first | with_reducible exact Below.refl _ _ | with_reducible refine Below.setCell ?_ (by first | omega | (simp; done) | (simp; omega)) _ | with_reducible refine Below.alloc ?_ (by first | omega | (simp; done) | (simp; omega)) _ | with_reducible refine Below.drew ?_ | with_reducible refine Ext.on _ ?_ (by first | omega | (simp; done) | (simp; omega))
          · have h := (HMD.out (w.heap.size + 1 + 1) (.inr (.inl rfl))).trans HX.out
            simp only [World.setCell, Array.getElem?_modify, h]
            simp
          · refine RowOf.set (RowOf.push HR.out (by omega) ?_ HF.out (HK2.out.carry (Nat.le_refl _) fun k _ hk => ⟨by have h : y0.val.heap.size ≤ k := hk; show x.val.heap.size ≤ k; omega, rfl⟩) HO3.out HG.out HA.out) (by show w.heap.size + 1 + 1 < w.heap.size + 3; omega)
            repeat first | with_reducible exact Below.refl _ _ | with_reducible refine Below.setCell ?_ (by first | omega | (simp; done) | (simp; omega)) _ | with_reducible refine Below.alloc ?_ (by first | omega | (simp; done) | (simp; omega)) _ | with_reducible refine Below.drew ?_ | with_reducible refine Ext.on _ ?_ (by first | omega | (simp; done) | (simp; omega))
          · rw [List.map_append, HM.out, HTK.out]; rfl
        case measure => simp [intOf]; omega
      · have e3 : rs.length = len := by have := HRL.out; omega
        have e4 : rs.map Rec.e = (shiftE e d).kids := by rw [HM.out, List.take_of_length_le (by rw [HL.out]; omega), shiftE_kids]
        obtain ⟨a3, cap3, hv, hk3⟩ := HR.out.kids
        rw [e3] at hv hk3
        rw [e4] at hk3
        have HK3 := Lib.hid hk3
        clear HR HM HRL e3 e4 hk3 hk ih hsl
        subst hv
        have s0 : (x.val.cell? ⟨w.heap.size + 1, 0, none⟩).isSome = true := by rw [x.cell 0 (by simp)]; simp [go_sem]
        have s1 : (x.val.cell? ⟨w.heap.size + 1, 1, none⟩).isSome = true := by rw [x.cell 1 (by simp)]; simp [go_sem]
        have s2 : (x.val.cell? ⟨w.heap.size + 1, 2, none⟩).isSome = true := by rw [x.cell 2 (by simp)]; simp [go_sem]
        have s3 : (x.val.cell? ⟨w.heap.size + 1, 3, none⟩).isSome = true := by rw [x.cell 3 (by simp)]; simp [go_sem]
        have s4 : (x.val.cell? ⟨w.heap.size + 1, 4, none⟩).isSome = true := by rw [x.cell 4 (by simp)]; simp [go_sem]
        have s5 : (x.val.cell? ⟨w.heap.size + 1, 5, none⟩).isSome = true := by rw [x.cell 5 (by simp)]; simp [go_sem]
        go_wp2_with fail
        refine ret_ex rfl ?_
        simp [results, Try.results12, go_sem]
        refine ⟨a3, cap3, by rw [shiftE_op, shiftE_ty, shiftE_num, shiftE_text, HC.out], ?_, Cls.of ?_⟩
        · exact ((((((HK3.out.set (fun b hb => by simp; omega)).set (fun b hb => by simp; omega)).set (fun b hb => by simp; omega)).set (fun b hb => by simp; omega)).set (fun b hb => by simp; omega)).set (fun b hb => by simp; omega)).carry (Nat.le_refl _) fun b _ hb => ⟨by omega, rfl⟩
        · repeat first | with_reducible exact Below.refl _ _ | with_reducible refine Below.setCell ?_ (by first | omega | (simp; done) | (simp; omega)) _ | with_reducible refine Below.alloc ?_ (by first | omega | (simp; done) | (simp; omega)) _ | with_reducible refine Below.drew ?_ | with_reducible refine Ext.on _ ?_ (by first | omega | (simp; done) | (simp; omega))
end Go.Proofs.Ytonnbmiallammaa
