/-
  The tables that are made so far, while the tape makes a schema. The types of a table's columns that the reference gives, as a row of its own. The types of a table's columns, the program's Types and the reference's; two lists of numbers compared. The program's Types.
-/
import Derived.Test.YtpddkljedhghkaaDoorJ18
import Derived.Test.YtpddkljedhghkaaDoorJ17
import Derived.Maps.AppendAt
import Derived.OwnWalk
import Derived.Laws.Entries
import Derived.Test.YtpddkljedhghkaaDoorJ06
set_option linter.unusedVariables false
namespace Go.Proofs.YtpddkljedhghkaaDoor
open Go Go.RowKit Go.Deep
/-- The key's column, and so many of a table's own columns. -/
def colL (ty : Nat → Int) (nl : Nat → Bool) (k : Nat) : List Cl := ⟨⟨#[105, 100]⟩, 1, false⟩ :: (List.range k).map fun j => ⟨nmB ⟨#[99]⟩ j, ty j, nl j⟩
/-- The columns of so many foreign keys. -/
def fcL (nl : Nat → Bool) (k : Nat) : List Cl := (List.range k).map fun j => ⟨nmB ⟨#[102]⟩ j, 1, nl j⟩
theorem colL_len (ty : Nat → Int) (nl : Nat → Bool) (k : Nat) : (colL ty nl k).length = 1 + k := by simp [colL]; omega
theorem fcL_len (nl : Nat → Bool) (k : Nat) : (fcL nl k).length = k := by simp [fcL]
def put {α : Type} (f : Nat → α) (i : Nat) (v : α) : Nat → α := fun j => if j = i then v else f j
theorem put_at {α : Type} {f : Nat → α} {i : Nat} {v : α} : put f i v i = v := if_pos rfl
theorem put_lt {α : Type} {f : Nat → α} {i : Nat} {v : α} {j : Nat} (h : j < i) : put f i v j = f j := if_neg (by omega)
theorem range_put {α β : Type} {f : Nat → α} {g : Nat → α → β} {k : Nat} {v : α} : (List.range (k + 1)).map (fun j => g j (put f k v j)) = (List.range k).map (fun j => g j (f j)) ++ [g k v] := by
  rw [List.range_succ, List.map_append, List.map_cons, List.map_nil, put_at]
  congr 1
  refine List.map_congr_left fun j hj => ?_
  rw [put_lt (List.mem_range.1 hj)]
theorem colL_push (ty : Nat → Int) (nl : Nat → Bool) (k : Nat) (t : Int) (b : Bool) : colL (put ty k t) (put nl k b) (k + 1) = colL ty nl k ++ [⟨nmB ⟨#[99]⟩ k, t, b⟩] := by
  have h : (fun j => (⟨nmB ⟨#[99]⟩ j, put ty k t j, put nl k b j⟩ : Cl)) = fun j => (fun (j : Nat) (p : Int × Bool) => (⟨nmB ⟨#[99]⟩ j, p.1, p.2⟩ : Cl)) j (put (fun j => (ty j, nl j)) k (t, b) j) := by
    funext j
    unfold put
    split <;> rfl
  have e := range_put (f := fun j => (ty j, nl j)) (g := fun (j : Nat) (p : Int × Bool) => (⟨nmB ⟨#[99]⟩ j, p.1, p.2⟩ : Cl)) (k := k) (v := (t, b))
  unfold colL
  rw [h]
  exact congrArg (List.cons _) e
theorem fcL_push (nl : Nat → Bool) (k : Nat) (b : Bool) : fcL (put nl k b) (k + 1) = fcL nl k ++ [⟨nmB ⟨#[102]⟩ k, 1, b⟩] := range_put (g := fun (j : Nat) (p : Bool) => (⟨nmB ⟨#[102]⟩ j, 1, p⟩ : Cl))
/-- A table that the tape makes, the i-th of its schema. -/
def MadeTb (i : Nat) (t : Tb) : Prop :=
  ∃ (fr ff : Nat) (ty : Nat → Int) (nl fnl : Nat → Bool) (tgt : Nat → Nat) (ul : List UR) (fl : List FR) (ck : List Ex) (s1 s2 s3 s4 : Sl) (pb : Nat),
    t = tbG (nmB ⟨#[116]⟩ i) s1 (colL ty nl fr ++ fcL fnl ff) pb s2 ul s3 fl s4 ck ∧ s1.len = 1 + fr + ff ∧ s2.len = ul.length ∧ s3.len = ff ∧ s4.len = ck.length ∧ 1 ≤ fr ∧ fr ≤ 3 ∧ ff ≤ 2 ∧ (∀ j, j < fr → IsTy (ty j)) ∧
    fl.map (fun r => (r.n, r.nm)) = (List.range ff).map (fun j => (((1 + fr + j : Nat) : Int), nmB ⟨#[116]⟩ (tgt j))) ∧ (∀ j, j < ff → tgt j < i) ∧ ul.length ≤ 1 ∧ (∀ r ∈ ul, 1 ≤ r.n ∧ r.n ≤ (fr : Nat)) ∧ ck.length ≤ 1 ∧ ∀ e ∈ ck, Made ((colL ty nl fr ++ fcL fnl ff).map Cl.ty) 2 2 e
/-- Ahead of round i. -/
structure OutG (T : Nat) (w : World) (i m : Nat) (v : Value) (tb : Nat → Tb) (los his : Nat → Nat) (wr : World) : Prop where
  tp : Tp T w wr
  tape : TapeAt T m wr
  b2 : wr.heap[w.heap.size]? = some (.cells #[.slice none 0 0] 45)
  b3 : wr.heap[w.heap.size + 1]? = some (.cells #[v] 45)
  own : wr.ownsRow (w.heap.size + 2) 53 6 v i ((List.range i).flatMap fun j => (tb j).cells)
  tabs : ∀ j, j < i → MadeTb j (tb j) ∧ TbO wr (tb j) (los j) (his j) ∧ w.heap.size + 2 ≤ los j ∧ his j ≤ wr.heap.size ∧ ∀ k, v.ownBlock = some k → ¬ (los j ≤ k ∧ k < his j)
  sep : ∀ j j', j < j' → j' < i → his j ≤ los j'
theorem outG_step {T i m m' pb xb : Nat} {w W wr w6 : World} {v v' cs us fs ks : Value} {tb : Nat → Tb} {los his : Nat → Nat} {nm : ByteArray} {t : Tb} {o : Obj} (hT : T < w.heap.size) (h : OutG T w i m v tb los his W) (hf : Fg T m' W xb pb nm cs us fs ks wr) (hM : MadeTb i t) (hI : TbO wr t W.heap.size wr.heap.size)
    (hg : (wr.alloc o).grownBy w6 v.ownBlock) (ho : w6.ownsRow (w.heap.size + 2) 53 6 v' (i + 1) (((List.range i).flatMap fun j => (tb j).cells) ++ t.cells)) (hat : v'.ownBlock = v.ownBlock ∨ v'.ownBlock = some (wr.alloc o).heap.size) :
    OutG T w (i + 1) m' v' (put tb i t) (put los i W.heap.size) (put his i wr.heap.size) (w6.setCell ⟨w.heap.size + 1, 0, none⟩ v') := by
  have hW := (Array.getElem?_eq_some_iff.1 h.b3).1
  have hws := hf.tp.size
  have h6 : wr.heap.size + 1 ≤ w6.heap.size := by have := hg.size; simpa using this
  have hv := fun k hk => h.own.lt k hk
  have keep : ∀ b, b < wr.heap.size → v.ownBlock ≠ some b → b ≠ w.heap.size + 1 → (w6.setCell ⟨w.heap.size + 1, 0, none⟩ v').heap[b]? = wr.heap[b]? := fun b hb hne hne2 =>
    (Below.heap_setCell _ _ _ _ hne2).trans ((hg.block b (by simp; omega) (fun e => hne e.symm)).trans (Below.heap_alloc _ _ _ hb))
  have hwW : ∀ b, b < W.heap.size → b ≠ T → wr.heap[b]? = W.heap[b]? := fun b hb hne => hf.tp.block b hb hne
  refine ⟨?_, ?_, ?_, ?_, ?_, fun j hj => ?_, fun j j' hjj hj' => ?_⟩
  · refine Tp.setCell (((h.tp.trans hf.tp).alloc o).grown hg fun k hk => ?_) (.inl (by show w.heap.size ≤ w.heap.size + 1; omega)) _
    have := (hv k hk).1
    omega
  · refine hf.tape.upto (Below.setCell (Below.grown ((Below.refl _ _).alloc (by have := hf.tape.lt; omega) _) hg (by have := hf.tape.lt; simp; omega) fun k hk => ?_) (by show T + 1 ≤ w.heap.size + 1; omega) _)
    have := (hv k hk).1
    omega
  · exact (keep _ (by omega) (fun e => by have := (hv _ e).1; omega) (by omega)).trans ((hwW _ (by omega) (by omega)).trans h.b2)
  · have hb3 : w6.heap[w.heap.size + 1]? = some (.cells #[v] 45) := (hg.block _ (by simp; omega) (fun e => by have := (hv _ e.symm).1; omega)).trans ((Below.heap_alloc _ _ _ (by omega)).trans ((hwW _ (by omega) (by omega)).trans h.b3))
    simp only [World.setCell, Array.getElem?_modify, hb3]
    simp
  · have e : ((List.range (i + 1)).flatMap fun j => (put tb i t j).cells) = ((List.range i).flatMap fun j => (tb j).cells) ++ t.cells := by
      rw [List.flatMap_def, List.flatMap_def, range_put (g := fun (_ : Nat) (p : Tb) => p.cells), List.flatten_append]
      simp
    rw [e]
    exact own_set ho fun k hk => by
      have := (ho.lt k hk).1
      omega
  · have hs6 : (w6.setCell ⟨w.heap.size + 1, 0, none⟩ v').heap.size = w6.heap.size := by simp [World.setCell]
    by_cases e : j = i
    · subst e
      rw [put_at, put_at, put_at]
      refine ⟨hM, hI.carry (fun b h1 h2 => keep b h2 (fun e => by have := (hv _ e).2; omega) (by omega)) (by omega), by omega, by omega, fun k hk => ?_⟩
      rcases hat with e | e
      · rw [e] at hk
        have := (hv k hk).2
        omega
      · rw [e] at hk
        simp at hk
        omega
    · have hji : j < i := by omega
      obtain ⟨t1, t2, t3, t4, t5⟩ := h.tabs j hji
      rw [put_lt hji, put_lt hji, put_lt hji]
      refine ⟨t1, t2.carry (fun b h1 h2 => (keep b (by omega) (fun e => t5 b e ⟨h1, h2⟩) (by omega)).trans (hwW b (by omega) (by omega))) (by omega), t3, by omega, fun k hk => ?_⟩
      rcases hat with e | e
      · rw [e] at hk
        exact t5 k hk
      · rw [e] at hk
        simp at hk
        omega
  · by_cases e : j' = i
    · subst e
      obtain ⟨_, _, _, t4, _⟩ := h.tabs j hjj
      rw [put_at, put_lt hjj]
      exact t4
    · have h2 : j' < i := by omega
      rw [put_lt h2, put_lt (by omega)]
      exact h.sep j j' hjj h2
/-- What the tape makes: tables that are made. -/
def SchG (sl : Sl) (tb : Nat → Tb) : Prop := 1 ≤ sl.len ∧ sl.len ≤ 3 ∧ ∀ i, i < sl.len → MadeTb i (tb i)
theorem tabs_of {T i m : Nat} {w wr W : World} {v : Value} {tb : Nat → Tb} {los his : Nat → Nat} (h : OutG T w i m v tb los his wr) (hW : ∀ b, w.heap.size + 2 ≤ b → W.heap[b]? = wr.heap[b]?) (hs : wr.heap.size ≤ W.heap.size) : ∃ s : Sl, v = s.v ∧ s.len = i ∧ TabsAt W s tb := by
  obtain ⟨s, e, l, hsl⟩ := own_sl (cell := fun j => (tb j).cells) h.own fun a ha j hj => by
    have h1 := flat_at (fun j => (tb j).cells) 6 (fun _ => rfl) 0 (List.range i) a (by simpa using ha) j hj
    rw [h1]
    simp [List.getD, ha]
  exact ⟨s, e, l, (hsl.carry (fun b h1 _ => hW b h1) hs).1, fun j hj => by
    obtain ⟨_, t2, t3, t4, _⟩ := h.tabs j (by omega)
    exact (t2.carry (fun b h1 h2 => hW b (by omega)) hs).at_⟩
/-- The schema that was made, and that nothing else holds. -/
def SchO (W : World) (lo0 : Nat) (sl : Sl) (tb : Nat → Tb) : Prop :=
  W.ownsRow lo0 53 6 sl.v sl.len ((List.range sl.len).flatMap fun j => (tb j).cells) ∧ ∃ los his : Nat → Nat, (∀ j, j < sl.len → TbO W (tb j) (los j) (his j) ∧ lo0 ≤ los j ∧ his j ≤ W.heap.size ∧ ∀ k, sl.v.ownBlock = some k → ¬ (los j ≤ k ∧ k < his j)) ∧ ∀ j j', j < j' → j' < sl.len → his j ≤ los j'
theorem schO_of {T i m : Nat} {w wr W : World} {v : Value} {tb : Nat → Tb} {los his : Nat → Nat} (h : OutG T w i m v tb los his wr) (hW : ∀ b, w.heap.size + 2 ≤ b → W.heap[b]? = wr.heap[b]?) (hs : wr.heap.size ≤ W.heap.size) : ∃ s : Sl, v = s.v ∧ s.len = i ∧ TabsAt W s tb ∧ SchO W (w.heap.size + 2) s tb := by
  obtain ⟨s, e, l, hT⟩ := tabs_of h hW hs
  subst e l
  refine ⟨s, rfl, rfl, hT, own_block h.own fun k hk => hW k (h.own.lt k hk).1, los, his, fun j hj => ?_, h.sep⟩
  obtain ⟨_, t2, t3, t4, t5⟩ := h.tabs j hj
  exact ⟨t2.carry (fun b h1 _ => hW b (by omega)) hs, t3, by omega, t5⟩
end Go.Proofs.YtpddkljedhghkaaDoor
set_option linter.unusedVariables false
namespace Go.Proofs.YtpddkljedhghkaaDoor
open Go Go.RowKit Go.Deep
/-- The types of so many columns. -/
def tyL (f : Nat → Cl) (n : Nat) : List Int := (List.range n).map fun i => (f i).ty
theorem tyL_go (f : Nat → Cl) (n : Nat) : tyL f (n + 1) = tyL f n ++ [(f n).ty] := by simp [tyL, List.range_succ]
theorem tyL_len (f : Nat → Cl) (n : Nat) : (tyL f n).length = n := by simp [tyL]
set_option maxHeartbeats 4000000 in
set_option maxRecDepth 20000 in
theorem rTypesO_calls (t : Tb) (w : World) (h : TbAt w t) (hl : t.cs.len ≤ 1000) :
    Calls Tryd.prog 52 #[.agg #[.string t.name, .slice t.cs.a t.cs.len t.cs.cap, .slice t.ps.a t.ps.len t.ps.cap, .slice t.us.a t.us.len t.us.cap, .slice t.fs.a t.fs.len t.fs.cap, .slice t.ks.a t.ks.len t.ks.cap]] w fun r w' => ∃ v : Value, r = .returned v ∧ w'.ownsRow (w.heap.size + 1) 3 1 v (tyL t.col t.cs.len).length (flatI (tyL t.col t.cs.len)) ∧ Cls w w' := by
  obtain ⟨i0, hi, hz0, hz1, hz2⟩ := info_parts infoI
  have hle := h.cols.1
  have hmax := h.cols.2.1
  unfold maxLen at hmax
  have H := Lib.hid h.cols
  clear h
  obtain ⟨tn, ⟨sa, sn, sc⟩, f, tps, tprim, tus, tuq, tuqn, tfs, tfk, tfkn, tfkt, tks, tch⟩ := t
  simp only at hl hle hmax H ⊢
  go_enter Tryd.func52, Tryd.ntmps52
  go_wp2_with fail
  go_loopw [3, 4] (fun u i wr => ∃ j : Nat, j ≤ sn ∧ i = .int .i64 j ∧ wr.ownsRow (w.heap.size + 1) 3 1 u (tyL f j).length (flatI (tyL f j)) ∧ Cls (w.alloc (.cells #[.string tn, .slice sa sn sc, .slice tps.a tps.len tps.cap, .slice tus.a tus.len tus.cap, .slice tfs.a tfs.len tfs.cap, .slice tks.a tks.len tks.cap] 53)) wr) (fun _ i _ => sn - (intOf i).toNat)
  case atStart => exact ⟨0, Nat.zero_le _, rfl, World.ownsRow_nil _ _ _ 1, Cls.of (Below.refl _ _)⟩
  case round =>
    obtain ⟨j, hj, rfl, hown, x, rfl⟩ := hrel
    have HO := Lib.hid hown
    clear hown
    have xs := x.size
    have xs2 : w.heap.size + 1 ≤ x.val.heap.size := by simpa using xs
    have HLJ := Lib.hid (tyL_len f j)
    by_cases hlt : j < sn
    · obtain ⟨b, off, ha, hb2, hc⟩ := H.out.2.2.2 j hlt
      simp only at ha
      subst ha
      have q0 := hc 0 (by omega)
      have q1 := hc 1 (by omega)
      have q2 := hc 2 (by omega)
      simp only [Cl.cells, List.getElem?_cons_zero, List.getElem?_cons_succ, Nat.add_zero] at q0 q1 q2
      have hb1 : b < w.heap.size + 1 := by omega
      have HG0 := Lib.hid (tyL_go f j)
      clear hc
      generalize f j = c at q0 q1 q2 HG0
      go_wp2_with (at_builtin; refine wpList_append_own_at _ rfl _ _ 22 rfl (w.heap.size + 1) 3 i0 (.int .i64 0) 1 8 Tryd.underlying22 hi hz0 hz1 hz2 rfl (by decide) _ (tyL f j).length (flatI (tyL f j)) rfl (own_later HO.out (by repeat first | with_reducible exact Below.refl _ _ | with_reducible refine Below.setCell ?_ (by first | omega | (simp; done) | (simp; omega)) _ | with_reducible refine Below.alloc ?_ (by first | omega | (simp; done) | (simp; omega)) _ | with_reducible refine Below.drew ?_ | with_reducible refine Ext.on _ ?_ (by first | omega | (simp; done) | (simp; omega)))) ⟨x.val.heap.size, 0, none⟩ 1 1 [.int .i64 c.ty] rfl rfl (cells_new' _ _ _) (int_one _) (by have := HLJ.out; unfold maxLen; omega) (by have := HLJ.out; omega) (by simp; omega) ?_; intro v3 w3 hown3 hg3 _ hat3; have HO3 := Lib.hid hown3; have HG := Lib.hid hg3; clear hown3 hg3 hat3)
      go_roundw
      case rel =>
        refine ⟨j + 1, by omega, by go_num, by rw [HG0.out, List.length_append, flatI_append]; exact HO3.out, Cls.of (Below.mono (Below.grown (w := x.val.alloc _) ?_ HG.out (by simp; omega) (fun k hk => (HO.out.lt k hk).1)) (by simp))⟩
        repeat first | with_reducible exact Below.refl _ _ | with_reducible refine Below.setCell ?_ (by first | omega | (simp; done) | (simp; omega)) _ | with_reducible refine Below.alloc ?_ (by first | omega | (simp; done) | (simp; omega)) _ | with_reducible refine Below.drew ?_ | with_reducible refine Ext.on _ ?_ (by first | omega | (simp; done) | (simp; omega))
      case measure => simp [intOf]; omega
    · have hj2 : sn = j := by omega
      subst hj2
      go_wp2_with fail
      go_ret
      refine ⟨_, rfl, own_later HO.out (by repeat first | with_reducible exact Below.refl _ _ | with_reducible refine Below.setCell ?_ (by first | omega | (simp; done) | (simp; omega)) _ | with_reducible refine Below.alloc ?_ (by first | omega | (simp; done) | (simp; omega)) _ | with_reducible refine Below.drew ?_ | with_reducible refine Ext.on _ ?_ (by first | omega | (simp; done) | (simp; omega))), Cls.of ?_⟩
      repeat first | with_reducible exact Below.refl _ _ | with_reducible refine Below.setCell ?_ (by first | omega | (simp; done) | (simp; omega)) _ | with_reducible refine Below.alloc ?_ (by first | omega | (simp; done) | (simp; omega)) _ | with_reducible refine Below.drew ?_ | with_reducible refine Ext.on _ ?_ (by first | omega | (simp; done) | (simp; omega))
theorem tyL_colOf (cl : List Cl) (n : Nat) (h : n = cl.length) : tyL (fun i => cl.getD i default) n = cl.map Cl.ty := by
  subst h
  refine List.ext_getElem (by simp [tyL]) fun i h1 h2 => ?_
  have h3 : i < cl.length := by simpa using h2
  simp [tyL, List.getD, h3]
end Go.Proofs.YtpddkljedhghkaaDoor
set_option linter.unusedVariables false
namespace Go.Proofs.YtpddkljedhghkaaDoor
open Go Go.RowKit Go.Deep
theorem own_later' {w w' : World} {base size n : Nat} {e : TypeId} {v : Value} {xs : List Value} (h : w.ownsRow base e size v n xs) (hb : Below w.heap.size w w') : w'.ownsRow base e size v n xs := by
  refine ⟨h.1, h.2.imp id ?_⟩
  rintro ⟨g, cap, cur, hv, hg, hh, rest⟩
  exact ⟨g, cap, cur, hv, hg, (hb.block g (Array.getElem?_eq_some_iff.1 hh).1).trans hh, rest⟩
/-- A row of numbers that a call made, as a slice. -/
theorem sl_of {w : World} {base : Nat} {v : Value} {l : List Int} (h : w.ownsRow base 3 1 v l.length (flatI l)) : ∃ s : Sl, v = s.v ∧ s.len = l.length ∧ SlAt w 1 s (intC fun i => l.getD i 0) := by
  rcases h.2 with ⟨rfl, h0⟩ | ⟨g, cap, cur, rfl, hb, hh, hn, hc, hr, ht⟩
  · exact ⟨Sl.z, rfl, h0.symm, ⟨Nat.le_refl _, Nat.zero_le _, fun _ => ⟨rfl, rfl⟩, fun i hi => absurd hi (by simp [Sl.z])⟩⟩
  · refine ⟨⟨some ⟨g, 0, none⟩, l.length, cap⟩, rfl, rfl, ⟨hn, hc, (fun h => by cases h), fun i hi => ⟨g, 0, rfl, (Array.getElem?_eq_some_iff.1 hh).1, fun j hj => ?_⟩⟩⟩
    have hi2 : i < l.length := hi
    have hcell := World.ownsRow.cells h (g := g) rfl
    have hadd : ∀ j, (⟨g, 0, none⟩ : Addr).add j = ⟨g, 0 + j, none⟩ := fun j => by unfold Addr.add; split <;> simp_all
    have c0 := hcell i (.int .i64 (l.getD i 0)) (by simp [flatI, List.getD, hi2])
    rw [hadd] at c0
    obtain rfl : j = 0 := by omega
    rw [Nat.mul_one, Nat.add_zero, c0]; rfl
set_option maxHeartbeats 4000000 in
set_option maxRecDepth 20000 in
theorem rTypes_calls (t : Tb) (w : World) (h : TbAt w t) (hl : t.cs.len ≤ 1000) :
    Calls Tryd.prog 52 #[.agg #[.string t.name, .slice t.cs.a t.cs.len t.cs.cap, .slice t.ps.a t.ps.len t.ps.cap, .slice t.us.a t.us.len t.us.cap, .slice t.fs.a t.fs.len t.fs.cap, .slice t.ks.a t.ks.len t.ks.cap]] w fun r w' => ∃ s : Sl, r = .returned s.v ∧ s.len = t.cs.len ∧ SlAt w' 1 s (intC fun i => (tyL t.col t.cs.len).getD i 0) ∧ Cls w w' := by
  obtain ⟨i0, hi, hz0, hz1, hz2⟩ := info_parts infoI
  have hle := h.cols.1
  have hmax := h.cols.2.1
  unfold maxLen at hmax
  have H := Lib.hid h.cols
  clear h
  obtain ⟨tn, ⟨sa, sn, sc⟩, f, tps, tprim, tus, tuq, tuqn, tfs, tfk, tfkn, tfkt, tks, tch⟩ := t
  simp only at hl hle hmax H ⊢
  go_enter Tryd.func52, Tryd.ntmps52
  go_wp2_with fail
  go_loopw [3, 4] (fun u i wr => ∃ j : Nat, j ≤ sn ∧ i = .int .i64 j ∧ wr.ownsRow (w.heap.size + 1) 3 1 u (tyL f j).length (flatI (tyL f j)) ∧ Cls (w.alloc (.cells #[.string tn, .slice sa sn sc, .slice tps.a tps.len tps.cap, .slice tus.a tus.len tus.cap, .slice tfs.a tfs.len tfs.cap, .slice tks.a tks.len tks.cap] 53)) wr) (fun _ i _ => sn - (intOf i).toNat)
  case atStart => exact ⟨0, Nat.zero_le _, rfl, World.ownsRow_nil _ _ _ 1, Cls.of (Below.refl _ _)⟩
  case round =>
    obtain ⟨j, hj, rfl, hown, x, rfl⟩ := hrel
    have HO := Lib.hid hown
    clear hown
    have xs := x.size
    have xs2 : w.heap.size + 1 ≤ x.val.heap.size := by simpa using xs
    have HLJ := Lib.hid (tyL_len f j)
    by_cases hlt : j < sn
    · obtain ⟨b, off, ha, hb2, hc⟩ := H.out.2.2.2 j hlt
      simp only at ha
      subst ha
      have q0 := hc 0 (by omega)
      have q1 := hc 1 (by omega)
      have q2 := hc 2 (by omega)
      simp only [Cl.cells, List.getElem?_cons_zero, List.getElem?_cons_succ, Nat.add_zero] at q0 q1 q2
      have hb1 : b < w.heap.size + 1 := by omega
      have HG0 := Lib.hid (tyL_go f j)
      clear hc
      generalize f j = c at q0 q1 q2 HG0
      go_wp2_with (at_builtin; refine wpList_append_own_at _ rfl _ _ 22 rfl (w.heap.size + 1) 3 i0 (.int .i64 0) 1 8 Tryd.underlying22 hi hz0 hz1 hz2 rfl (by decide) _ (tyL f j).length (flatI (tyL f j)) rfl (own_later' HO.out (by repeat first | with_reducible exact Below.refl _ _ | with_reducible refine Below.setCell ?_ (by first | omega | (simp; done) | (simp; omega)) _ | with_reducible refine Below.alloc ?_ (by first | omega | (simp; done) | (simp; omega)) _ | with_reducible refine Below.drew ?_ | with_reducible refine Ext.on _ ?_ (by first | omega | (simp; done) | (simp; omega)))) ⟨x.val.heap.size, 0, none⟩ 1 1 [.int .i64 c.ty] rfl rfl (cells_new' _ _ _) (int_one _) (by have := HLJ.out; unfold maxLen; omega) (by have := HLJ.out; omega) (by simp; omega) ?_; intro v3 w3 hown3 hg3 _ hat3; have HO3 := Lib.hid hown3; have HG := Lib.hid hg3; clear hown3 hg3 hat3)
      go_roundw
      case rel =>
        refine ⟨j + 1, by omega, by go_num, by rw [HG0.out, List.length_append, flatI_append]; exact HO3.out, Cls.of (Below.mono (Below.grown (w := x.val.alloc _) ?_ HG.out (by simp; omega) (fun k hk => (HO.out.lt k hk).1)) (by simp))⟩
        repeat first | with_reducible exact Below.refl _ _ | with_reducible refine Below.setCell ?_ (by first | omega | (simp; done) | (simp; omega)) _ | with_reducible refine Below.alloc ?_ (by first | omega | (simp; done) | (simp; omega)) _ | with_reducible refine Below.drew ?_ | with_reducible refine Ext.on _ ?_ (by first | omega | (simp; done) | (simp; omega))
      case measure => simp [intOf]; omega
    · have hj2 : sn = j := by omega
      subst hj2
      obtain ⟨s, hs, hsl, hat⟩ := sl_of HO.out
      subst hs
      have hlen := tyL_len f sn
      have HS := Lib.hid hat
      have HL := Lib.hid (hsl.trans hlen)
      clear hat hsl hlen
      go_wp2_with fail
      go_ret
      refine ⟨s, rfl, HL.out, HS.out, Cls.of ?_⟩
      repeat first | with_reducible exact Below.refl _ _ | with_reducible refine Below.setCell ?_ (by first | omega | (simp; done) | (simp; omega)) _ | with_reducible refine Below.alloc ?_ (by first | omega | (simp; done) | (simp; omega)) _ | with_reducible refine Below.drew ?_ | with_reducible refine Ext.on _ ?_ (by first | omega | (simp; done) | (simp; omega))
end Go.Proofs.YtpddkljedhghkaaDoor
set_option linter.unusedVariables false
namespace Go.Proofs.YtpddkljedhghkaaDoor
open Go Go.RowKit Go.Deep
set_option maxHeartbeats 4000000 in
set_option maxRecDepth 20000 in
theorem sTypes_calls (t : Tb) (w : World) (h : TbAt w t) (hl : t.cs.len ≤ 1000) :
    Calls Tryd.prog 64 #[.agg #[.string t.name, .slice t.cs.a t.cs.len t.cs.cap, .slice t.ps.a t.ps.len t.ps.cap, .slice t.us.a t.us.len t.us.cap, .slice t.fs.a t.fs.len t.fs.cap, .slice t.ks.a t.ks.len t.ks.cap]] w fun r w' => ∃ s : Sl, r = .returned s.v ∧ s.len = t.cs.len ∧ SlAt w' 1 s (intC fun i => (tyL t.col t.cs.len).getD i 0) ∧ Cls w w' := by
  obtain ⟨i0, hi, hz0, hz1, hz2⟩ := info_parts infoI
  have hle := h.cols.1
  have hmax := h.cols.2.1
  unfold maxLen at hmax
  have H := Lib.hid h.cols
  clear h
  obtain ⟨tn, ⟨sa, sn, sc⟩, f, tps, tprim, tus, tuq, tuqn, tfs, tfk, tfkn, tfkt, tks, tch⟩ := t
  simp only at hl hle hmax H ⊢
  go_enter Tryd.func64, Tryd.ntmps64
  go_wp2_with fail
  go_loopw [3, 9] (fun u i wr => ∃ j : Nat, j ≤ sn ∧ i = .int .i64 j ∧ wr.ownsRow (w.heap.size + 1) 3 1 u (tyL f j).length (flatI (tyL f j)) ∧ Cls (w.alloc (.cells #[.string tn, .slice sa sn sc, .slice tps.a tps.len tps.cap, .slice tus.a tus.len tus.cap, .slice tfs.a tfs.len tfs.cap, .slice tks.a tks.len tks.cap] 53)) wr) (fun _ i _ => sn - (intOf i).toNat)
  case atStart => exact ⟨0, Nat.zero_le _, rfl, World.ownsRow_nil _ _ _ 1, Cls.of (Below.refl _ _)⟩
  case round =>
    obtain ⟨j, hj, rfl, hown, x, rfl⟩ := hrel
    have HO := Lib.hid hown
    clear hown
    have xs := x.size
    have xs2 : w.heap.size + 1 ≤ x.val.heap.size := by simpa using xs
    have HLJ := Lib.hid (tyL_len f j)
    by_cases hlt : j < sn
    · obtain ⟨b, off, ha, hb2, hc⟩ := H.out.2.2.2 j hlt
      simp only at ha
      subst ha
      have q0 := hc 0 (by omega)
      have q1 := hc 1 (by omega)
      have q2 := hc 2 (by omega)
      simp only [Cl.cells, List.getElem?_cons_zero, List.getElem?_cons_succ, Nat.add_zero] at q0 q1 q2
      have hb1 : b < w.heap.size + 1 := by omega
      have HG0 := Lib.hid (tyL_go f j)
      clear hc
      generalize f j = c at q0 q1 q2 HG0
      go_wp2_with (at_builtin; refine wpList_append_own_at _ rfl _ _ 22 rfl (w.heap.size + 1) 3 i0 (.int .i64 0) 1 8 Tryd.underlying22 hi hz0 hz1 hz2 rfl (by decide) _ (tyL f j).length (flatI (tyL f j)) rfl (own_later' HO.out (by repeat first | with_reducible exact Below.refl _ _ | with_reducible refine Below.setCell ?_ (by first | omega | (simp; done) | (simp; omega)) _ | with_reducible refine Below.alloc ?_ (by first | omega | (simp; done) | (simp; omega)) _ | with_reducible refine Below.drew ?_ | with_reducible refine Ext.on _ ?_ (by first | omega | (simp; done) | (simp; omega)))) ⟨x.val.heap.size + 1, 0, none⟩ 1 1 [.int .i64 c.ty] rfl rfl (fun j u hu => by have h9 := cells_new' (x.val.alloc (.cells #[.string c.name, .int .i64 c.ty, .bool c.null] 55)) [.int .i64 c.ty] 3 j u hu; simpa using h9) (int_one _) (by have := HLJ.out; unfold maxLen; omega) (by have := HLJ.out; omega) (by simp; omega) ?_; intro v3 w3 hown3 hg3 _ hat3; have HO3 := Lib.hid hown3; have HG := Lib.hid hg3; clear hown3 hg3 hat3)
      go_roundw
      case rel =>
        refine ⟨j + 1, by omega, by go_num, by rw [HG0.out, List.length_append, flatI_append]; exact HO3.out, Cls.of (Below.mono (Below.grown (w := (x.val.alloc _).alloc _) ?_ HG.out (by simp; omega) (fun k hk => (HO.out.lt k hk).1)) (by simp))⟩
        repeat first | with_reducible exact Below.refl _ _ | with_reducible refine Below.setCell ?_ (by first | omega | (simp; done) | (simp; omega)) _ | with_reducible refine Below.alloc ?_ (by first | omega | (simp; done) | (simp; omega)) _ | with_reducible refine Below.drew ?_ | with_reducible refine Ext.on _ ?_ (by first | omega | (simp; done) | (simp; omega))
      case measure => simp [intOf]; omega
    · have hj2 : sn = j := by omega
      subst hj2
      obtain ⟨s, hs, hsl, hat⟩ := sl_of HO.out
      subst hs
      have hlen := tyL_len f sn
      have HS := Lib.hid hat
      have HL := Lib.hid (hsl.trans hlen)
      clear hat hsl hlen
      go_wp2_with fail
      go_ret
      refine ⟨s, rfl, HL.out, HS.out, Cls.of ?_⟩
      repeat first | with_reducible exact Below.refl _ _ | with_reducible refine Below.setCell ?_ (by first | omega | (simp; done) | (simp; omega)) _ | with_reducible refine Below.alloc ?_ (by first | omega | (simp; done) | (simp; omega)) _ | with_reducible refine Below.drew ?_ | with_reducible refine Ext.on _ ?_ (by first | omega | (simp; done) | (simp; omega))
end Go.Proofs.YtpddkljedhghkaaDoor
