/-
  The rows of a table that is being made, and the table that they give.
-/
import Derived.Test.YtdmhmlnfoocnjaaGreatDoorK12
import Derived.Test.YtdmhmlnfoocnjaaGreatDoorK19
import Derived.Test.YtdmhmlnfoocnjaaGreatDoorK18
import Derived.Maps.AppendAt
import Derived.OwnWalk
import Derived.Laws.Entries
import Derived.Test.YtdmhmlnfoocnjaaGreatDoorK14
set_option linter.unusedVariables false
namespace Go.Proofs.YtdmhmlnfoocnjaaGreatDoor
open Go Go.RowKit Go.Deep
theorem flat_at {α : Type} (g : α → List Value) (k : Nat) (hg : ∀ a, (g a).length = k) (d : α) : ∀ (l : List α) (i : Nat), i < l.length → ∀ j, j < k → (l.flatMap g)[i * k + j]? = (g (l.getD i d))[j]?
  | [], i, h, _, _ => by simp at h
  | x :: l, 0, _, j, hj => by
    have hx := hg x
    rw [List.flatMap_cons, Nat.zero_mul, Nat.zero_add, List.getElem?_append_left (by omega)]
    rfl
  | x :: l, i + 1, h, j, hj => by
    have hx := hg x
    have ih := flat_at g k hg d l i (by simpa using h) j hj
    rw [List.flatMap_cons, List.getElem?_append_right (by rw [Nat.succ_mul]; omega), show (i + 1) * k + j - (g x).length = i * k + j by rw [Nat.succ_mul]; omega, ih]
    rfl
theorem Cl.cells_len (c : Cl) : c.cells.length = 3 := rfl
structure FR where
  b : Nat
  n : Int
  nm : ByteArray
instance : Inhabited FR := ⟨⟨0, 0, ⟨#[]⟩⟩⟩
def FR.cells (r : FR) : List Value := [.slice (some ⟨r.b, 0, none⟩) 1 1, .string r.nm]
theorem FR.cells_len (r : FR) : r.cells.length = 2 := rfl
structure UR where
  b : Nat
  n : Int
instance : Inhabited UR := ⟨⟨0, 0⟩⟩
def UR.cells (r : UR) : List Value := [.slice (some ⟨r.b, 0, none⟩) 1 1]
theorem UR.cells_len (r : UR) : r.cells.length = 1 := rfl
def tbG (nm : ByteArray) (cs : Sl) (cl : List Cl) (pb : Nat) (us : Sl) (ul : List UR) (fs : Sl) (fl : List FR) (ks : Sl) (ck : List Ex) : Tb :=
  ⟨nm, cs, fun i => cl.getD i default, ⟨some ⟨pb, 0, none⟩, 1, 1⟩, fun _ => 0, us, fun i => ⟨some ⟨(ul.getD i default).b, 0, none⟩, 1, 1⟩, fun i _ => (ul.getD i default).n, fs, fun i => ⟨some ⟨(fl.getD i default).b, 0, none⟩, 1, 1⟩, fun i _ => (fl.getD i default).n, fun i => (fl.getD i default).nm, ks, ck⟩
theorem own_own {w : World} {b1 b2 s1 s2 n1 n2 : Nat} {e1 e2 : TypeId} {v1 v2 : Value} {x1 x2 : List Value} (h1 : w.ownsRow b1 e1 s1 v1 n1 x1) (h2 : w.ownsRow b2 e2 s2 v2 n2 x2) (he : e1 ≠ e2) : ∀ k, v1.ownBlock = some k → v2.ownBlock ≠ some k := by
  intro k hk hk2
  rcases h1.2 with ⟨rfl, _⟩ | ⟨g, cap, cur, rfl, _, hh, _⟩
  · simp [Value.ownBlock] at hk
  · simp [Value.ownBlock] at hk
    subst hk
    exact own_ne_z h2 hh he g hk2 rfl
theorem own_beside {w w' : World} {b1 b2 s1 s2 n1 n2 : Nat} {e1 e2 : TypeId} {v1 v2 : Value} {x1 x2 : List Value} (h1 : w.ownsRow b1 e1 s1 v1 n1 x1) (h2 : w.ownsRow b2 e2 s2 v2 n2 x2) (he : e1 ≠ e2) (hg : w.grownBy w' v2.ownBlock) : w'.ownsRow b1 e1 s1 v1 n1 x1 :=
  own_block h1 fun k hk => hg.block k (h1.lt k hk).2 fun e => own_own h1 h2 he k hk e.symm
theorem blk_beside {w w' : World} {b b2 s2 n2 : Nat} {e2 t : TypeId} {v2 : Value} {x2 : List Value} {cs : Array Value} (h : w.heap[b]? = some (.cells cs t)) (h2 : w.ownsRow b2 e2 s2 v2 n2 x2) (he : t ≠ e2) (hg : w.grownBy w' v2.ownBlock) : w'.heap[b]? = some (.cells cs t) :=
  (hg.block b (Array.getElem?_eq_some_iff.1 h).1 fun e => own_ne_z h2 h he b e.symm rfl).trans h
structure RowsG (lo xb : Nat) (cs us fs ks : Value) (cl : List Cl) (ul : List UR) (fl : List FR) (rs : List Rec) (wr : World) : Prop where
  c : wr.ownsRow lo 62 3 cs cl.length (cl.flatMap Cl.cells)
  u : wr.ownsRow lo 22 1 us ul.length (ul.flatMap UR.cells)
  ub : ∀ r ∈ ul, lo ≤ r.b ∧ wr.heap[r.b]? = some (.cells #[.int .i64 r.n] 3)
  f : wr.ownsRow lo 59 2 fs fl.length (fl.flatMap FR.cells)
  fb : ∀ r ∈ fl, lo ≤ r.b ∧ wr.heap[r.b]? = some (.cells #[.int .i64 r.n] 3)
  k : RowK wr (fun b => lo ≤ b ∧ b ≠ xb ∧ cs.ownBlock ≠ some b ∧ us.ownBlock ≠ some b ∧ fs.ownBlock ≠ some b) lo ks rs
namespace RowsG
variable {lo xb : Nat} {cs us fs ks : Value} {cl : List Cl} {ul : List UR} {fl : List FR} {rs : List Rec} {wr w' : World}
theorem same (h : RowsG lo xb cs us fs ks cl ul fl rs wr) (hb : ∀ b, lo ≤ b → b < wr.heap.size → w'.heap[b]? = wr.heap[b]?) (hs : wr.heap.size ≤ w'.heap.size) : RowsG lo xb cs us fs ks cl ul fl rs w' :=
  ⟨own_block h.c fun k hk => hb k (h.c.lt k hk).1 (h.c.lt k hk).2, own_block h.u fun k hk => hb k (h.u.lt k hk).1 (h.u.lt k hk).2, fun r hr => ⟨(h.ub r hr).1, (hb _ (h.ub r hr).1 (Array.getElem?_eq_some_iff.1 (h.ub r hr).2).1).trans (h.ub r hr).2⟩,
    own_block h.f fun k hk => hb k (h.f.lt k hk).1 (h.f.lt k hk).2, fun r hr => ⟨(h.fb r hr).1, (hb _ (h.fb r hr).1 (Array.getElem?_eq_some_iff.1 (h.fb r hr).2).1).trans (h.fb r hr).2⟩,
    h.k.carry (Nat.le_refl _) hs (fun k hk => hb k (h.k.1.lt k hk).1 (h.k.1.lt k hk).2) fun b hlt hok _ => ⟨hok, hb b hok.1 hlt⟩⟩
theorem below (h : RowsG lo xb cs us fs ks cl ul fl rs wr) (hb : Below wr.heap.size wr w') : RowsG lo xb cs us fs ks cl ul fl rs w' := h.same (fun b _ hlt => hb.block b hlt) hb.size
theorem next {T m : Nat} (h : RowsG lo xb cs us fs ks cl ul fl rs wr) (z : Lat T m wr) (hT : T < lo) : RowsG lo xb cs us fs ks cl ul fl rs z.val := h.same (fun b hlo hlt => z.tp.block b hlt (by omega)) z.size
theorem setx {i : Nat} {v : Value} {c5 : Array Value} (h : RowsG lo xb cs us fs ks cl ul fl rs wr) (hx : wr.heap[xb]? = some (.cells c5 55)) : RowsG lo xb cs us fs ks cl ul fl rs (wr.setCell ⟨xb, i, none⟩ v) :=
  ⟨own_set h.c (own_ne_z h.c hx (by decide)), own_set h.u (own_ne_z h.u hx (by decide)), fun r hr => ⟨(h.ub r hr).1, set_ne (h.ub r hr).2 (blk_ne (h.ub r hr).2 hx (by decide))⟩, own_set h.f (own_ne_z h.f hx (by decide)), fun r hr => ⟨(h.fb r hr).1, set_ne (h.fb r hr).2 (blk_ne (h.fb r hr).2 hx (by decide))⟩,
    h.k.carry (Nat.le_refl _) (by simp [World.setCell]) (fun k hk => Below.heap_setCell _ _ _ _ (own_ne_z h.k.1 hx (by decide) k hk)) fun b _ hok _ => ⟨hok, Below.heap_setCell _ _ _ _ hok.2.1⟩⟩
theorem nok {ok ok' : Nat → Prop} {base : Nat} (h : RowK wr ok base ks []) (ho : w'.ownsRow base 64 6 ks 0 []) : RowK w' ok' base ks [] := ⟨ho, fun r hr => by simp at hr⟩
theorem pushC {cs' : Value} {c : Cl} (h : RowsG lo xb cs us fs ks cl ul fl [] wr) (ho : w'.ownsRow lo 62 3 cs' (cl.length + 1) (cl.flatMap Cl.cells ++ c.cells)) (hg : wr.grownBy w' cs.ownBlock) : RowsG lo xb cs' us fs ks (cl ++ [c]) ul fl [] w' :=
  ⟨by rw [List.length_append, List.flatMap_append, List.flatMap_cons, List.flatMap_nil, List.append_nil]; exact ho, own_beside h.u h.c (by decide) hg, fun r hr => ⟨(h.ub r hr).1, blk_beside (h.ub r hr).2 h.c (by decide) hg⟩, own_beside h.f h.c (by decide) hg, fun r hr => ⟨(h.fb r hr).1, blk_beside (h.fb r hr).2 h.c (by decide) hg⟩, nok h.k (own_beside h.k.1 h.c (by decide) hg)⟩
theorem pushF {fs' : Value} {c : FR} (h : RowsG lo xb cs us fs ks cl ul fl [] wr) (ho : w'.ownsRow lo 59 2 fs' (fl.length + 1) (fl.flatMap FR.cells ++ c.cells)) (hg : wr.grownBy w' fs.ownBlock) (hc : lo ≤ c.b ∧ wr.heap[c.b]? = some (.cells #[.int .i64 c.n] 3)) : RowsG lo xb cs us fs' ks cl ul (fl ++ [c]) [] w' :=
  ⟨own_beside h.c h.f (by decide) hg, own_beside h.u h.f (by decide) hg, fun r hr => ⟨(h.ub r hr).1, blk_beside (h.ub r hr).2 h.f (by decide) hg⟩, by rw [List.length_append, List.flatMap_append, List.flatMap_cons, List.flatMap_nil, List.append_nil]; exact ho, fun r hr => by
    rcases List.mem_append.1 hr with hr | hr
    · exact ⟨(h.fb r hr).1, blk_beside (h.fb r hr).2 h.f (by decide) hg⟩
    · simp only [List.mem_cons, List.not_mem_nil, or_false] at hr
      subst hr
      exact ⟨hc.1, blk_beside hc.2 h.f (by decide) hg⟩, nok h.k (own_beside h.k.1 h.f (by decide) hg)⟩
theorem pushU {us' : Value} {c : UR} (h : RowsG lo xb cs us fs ks cl ul fl [] wr) (ho : w'.ownsRow lo 22 1 us' (ul.length + 1) (ul.flatMap UR.cells ++ c.cells)) (hg : wr.grownBy w' us.ownBlock) (hc : lo ≤ c.b ∧ wr.heap[c.b]? = some (.cells #[.int .i64 c.n] 3)) : RowsG lo xb cs us' fs ks cl (ul ++ [c]) fl [] w' :=
  ⟨own_beside h.c h.u (by decide) hg, by rw [List.length_append, List.flatMap_append, List.flatMap_cons, List.flatMap_nil, List.append_nil]; exact ho, fun r hr => by
    rcases List.mem_append.1 hr with hr | hr
    · exact ⟨(h.ub r hr).1, blk_beside (h.ub r hr).2 h.u (by decide) hg⟩
    · simp only [List.mem_cons, List.not_mem_nil, or_false] at hr
      subst hr
      exact ⟨hc.1, blk_beside hc.2 h.u (by decide) hg⟩, own_beside h.f h.u (by decide) hg, fun r hr => ⟨(h.fb r hr).1, blk_beside (h.fb r hr).2 h.u (by decide) hg⟩, nok h.k (own_beside h.k.1 h.u (by decide) hg)⟩
theorem pushK {ks' : Value} {r : Rec} {o : Obj} (h : RowsG lo xb cs us fs (.slice none 0 0) cl ul fl [] wr) (hf : r.e.fine) (hk : Kids wr (fun b => lo ≤ b ∧ b ≠ xb ∧ cs.ownBlock ≠ some b ∧ us.ownBlock ≠ some b ∧ fs.ownBlock ≠ some b) r.a r.len r.cap r.e.kids) (ho : w'.ownsRow lo 64 6 ks' 1 r.cells) (hg : (wr.alloc o).grownBy w' none) (hat : ks'.ownBlock = none ∨ ks'.ownBlock = some (wr.alloc o).heap.size) : RowsG lo xb cs us fs ks' cl ul fl [r] w' := by
  have hs : wr.heap.size + 1 ≤ w'.heap.size := by have := hg.size; simpa using this
  have hb : ∀ b, b < wr.heap.size → w'.heap[b]? = wr.heap[b]? := fun b hlt => (hg.block b (by simp; omega) (by simp)).trans (Below.heap_alloc _ _ _ hlt)
  have h2 := h.same (w' := w') (fun b _ hlt => hb b hlt) (by omega)
  exact ⟨h2.c, h2.u, h2.ub, h2.f, h2.fb, RowK.push (rs := []) h.k hf (hk.carry (Nat.le_refl _) fun b _ hok => ⟨⟨hok, by simp [Value.ownBlock]⟩, rfl⟩) ho hg hat⟩
end RowsG
theorem list_mem {α : Type} {l : List α} {d : α} {i : Nat} (h : i < l.length) : l.getD i d ∈ l := by
  simp [List.getD, h]
theorem tbI_of {lo xb pb : Nat} {nm : ByteArray} {cs us fs ks : Value} {cl : List Cl} {ul : List UR} {fl : List FR} {rs : List Rec} {wr : World} (h : RowsG lo xb cs us fs ks cl ul fl rs wr) (hnm : nm.size ≤ maxLen) (hpl : lo ≤ pb) (hpr : wr.heap[pb]? = some (.cells #[.int .i64 0] 3))
    (hcl : ∀ c ∈ cl, c.name.size ≤ maxLen ∧ (Lit.int .i64 c.ty).wf = true) (hfl : ∀ r ∈ fl, r.nm.size ≤ maxLen) :
    ∃ s1 s2 s3 s4 : Sl, cs = s1.v ∧ us = s2.v ∧ fs = s3.v ∧ ks = s4.v ∧ s1.len = cl.length ∧ s2.len = ul.length ∧ s3.len = fl.length ∧ s4.len = rs.length ∧ TbI wr (tbG nm s1 cl pb s2 ul s3 fl s4 (rs.map Rec.e)) lo wr.heap.size := by
  obtain ⟨s1, e1, l1, h1⟩ := own_sl (cell := fun i => (cl.getD i default).cells) h.c fun i hi j hj => flat_at Cl.cells 3 Cl.cells_len default cl i hi j hj
  obtain ⟨s2, e2, l2, h2⟩ := own_sl (cell := fun i => (ul.getD i default).cells) h.u fun i hi j hj => flat_at UR.cells 1 UR.cells_len default ul i hi j hj
  obtain ⟨s3, e3, l3, h3⟩ := own_sl (cell := fun i => (fl.getD i default).cells) h.f fun i hi j hj => flat_at FR.cells 2 FR.cells_len default fl i hi j hj
  obtain ⟨a4, c4, e4, h4⟩ := h.k.kids (ok' := fun b => lo ≤ b) (fun g hg => (h.k.1.lt g hg).1) fun b hb => hb.1
  refine ⟨s1, s2, s3, ⟨a4, rs.length, c4⟩, e1, e2, e3, e4, l1, l2, l3, rfl, hnm, h1, fun i hi => hcl _ (list_mem (by
    have : i < s1.len := hi
    omega)), sl_one hpr hpl, h2, fun i hi => ?_, h3, fun i hi => ?_, ?_⟩
  · have hi2 : i < ul.length := by
      have : i < s2.len := hi
      omega
    obtain ⟨q1, q2⟩ := h.ub _ (list_mem (d := default) hi2)
    exact sl_one q2 q1
  · have hi2 : i < fl.length := by
      have : i < s3.len := hi
      omega
    obtain ⟨q1, q2⟩ := h.fb _ (list_mem (d := default) hi2)
    exact ⟨sl_one q2 q1, hfl _ (list_mem hi2)⟩
  · exact h4.carry (Nat.le_refl _) fun b hlt hok => ⟨⟨hok, hlt⟩, rfl⟩
def TbO (W : World) (t : Tb) (lo hi : Nat) : Prop :=
  TbI W t lo hi ∧ ∃ (wr : World) (xb pb : Nat) (nm : ByteArray) (s1 s2 s3 s4 : Sl) (cl : List Cl) (ul : List UR) (fl : List FR) (rs : List Rec),
    t = tbG nm s1 cl pb s2 ul s3 fl s4 (rs.map Rec.e) ∧ RowsG lo xb s1.v s2.v s3.v s4.v cl ul fl rs wr ∧ lo ≤ pb ∧ wr.heap[pb]? = some (.cells #[.int .i64 0] 3) ∧ nm.size ≤ maxLen ∧ (∀ c ∈ cl, c.name.size ≤ maxLen ∧ (Lit.int .i64 c.ty).wf = true) ∧ (∀ r ∈ fl, r.nm.size ≤ maxLen) ∧
      wr.heap.size = hi ∧ hi ≤ W.heap.size ∧ ∀ b, lo ≤ b → b < hi → W.heap[b]? = wr.heap[b]?
theorem TbO.carry {w w' : World} {t : Tb} {lo hi : Nat} (h : TbO w t lo hi) (hb : ∀ b, lo ≤ b → b < hi → w'.heap[b]? = w.heap[b]?) (hs : w.heap.size ≤ w'.heap.size) : TbO w' t lo hi := by
  obtain ⟨h1, wr, xb, pb, nm, s1, s2, s3, s4, cl, ul, fl, rs, e, hr, p1, p2, p3, p4, p5, e6, p7, p8⟩ := h
  exact ⟨h1.carry hb hs, wr, xb, pb, nm, s1, s2, s3, s4, cl, ul, fl, rs, e, hr, p1, p2, p3, p4, p5, e6, by omega, fun b h1 h2 => (hb b h1 h2).trans (p8 b h1 h2)⟩
theorem TbO.at_ {w : World} {t : Tb} {lo hi : Nat} (h : TbO w t lo hi) : TbAt w t := h.1.at_
theorem tbO_of {lo xb pb : Nat} {nm : ByteArray} {cs us fs ks : Value} {cl : List Cl} {ul : List UR} {fl : List FR} {rs : List Rec} {wr : World} (h : RowsG lo xb cs us fs ks cl ul fl rs wr) (hnm : nm.size ≤ maxLen) (hpl : lo ≤ pb) (hpr : wr.heap[pb]? = some (.cells #[.int .i64 0] 3))
    (hcl : ∀ c ∈ cl, c.name.size ≤ maxLen ∧ (Lit.int .i64 c.ty).wf = true) (hfl : ∀ r ∈ fl, r.nm.size ≤ maxLen) :
    ∃ s1 s2 s3 s4 : Sl, cs = s1.v ∧ us = s2.v ∧ fs = s3.v ∧ ks = s4.v ∧ s1.len = cl.length ∧ s2.len = ul.length ∧ s3.len = fl.length ∧ s4.len = rs.length ∧ TbO wr (tbG nm s1 cl pb s2 ul s3 fl s4 (rs.map Rec.e)) lo wr.heap.size := by
  obtain ⟨s1, s2, s3, s4, e1, e2, e3, e4, l1, l2, l3, l4, hI⟩ := tbI_of h hnm hpl hpr hcl hfl
  subst e1 e2 e3 e4
  exact ⟨s1, s2, s3, s4, rfl, rfl, rfl, rfl, l1, l2, l3, l4, hI, wr, xb, pb, nm, s1, s2, s3, s4, cl, ul, fl, rs, rfl, h, hpl, hpr, hnm, hcl, hfl, rfl, Nat.le_refl _, fun b _ _ => rfl⟩
end Go.Proofs.YtdmhmlnfoocnjaaGreatDoor
set_option linter.unusedVariables false
namespace Go.Proofs.YtdmhmlnfoocnjaaGreatDoor
open Go Go.RowKit Go.Deep
def colL (ty : Nat → Int) (nl : Nat → Bool) (k : Nat) : List Cl := ⟨⟨#[105, 100]⟩, 1, false⟩ :: (List.range k).map fun j => ⟨nmB ⟨#[99]⟩ j, ty j, nl j⟩
def fcL (nl : Nat → Bool) (k : Nat) : List Cl := (List.range k).map fun j => ⟨nmB ⟨#[102]⟩ j, 1, nl j⟩
theorem colL_len (ty : Nat → Int) (nl : Nat → Bool) (k : Nat) : (colL ty nl k).length = 1 + k := by simp [colL]; omega
theorem fcL_len (nl : Nat → Bool) (k : Nat) : (fcL nl k).length = k := by simp [fcL]
def put {α : Type} (f : Nat → α) (i : Nat) (v : α) : Nat → α := fun j => if j = i then v else f j
theorem put_at {α : Type} {f : Nat → α} {i : Nat} {v : α} : put f i v i = v := if_pos rfl
theorem put_lt {α : Type} {f : Nat → α} {i : Nat} {v : α} {j : Nat} (h : j < i) : put f i v j = f j := if_neg (by omega)
theorem range_put {α β : Type} {f : Nat → α} {g : Nat → α → β} {k : Nat} {v : α} : (List.range (k + 1)).map (fun j => g j (put f k v j)) = (List.range k).map (fun j => g j (f j)) ++ [g k v] := by
  rw [List.range_succ, List.map_append, List.map_cons, List.map_nil, put_at]
  congr 1
  refine List.map_congr_left fun j hj => ?_
  rw [put_lt (List.mem_range.1 hj)]
theorem colL_push (ty : Nat → Int) (nl : Nat → Bool) (k : Nat) (t : Int) (b : Bool) : colL (put ty k t) (put nl k b) (k + 1) = colL ty nl k ++ [⟨nmB ⟨#[99]⟩ k, t, b⟩] := by
  have h : (fun j => (⟨nmB ⟨#[99]⟩ j, put ty k t j, put nl k b j⟩ : Cl)) = fun j => (fun (j : Nat) (p : Int × Bool) => (⟨nmB ⟨#[99]⟩ j, p.1, p.2⟩ : Cl)) j (put (fun j => (ty j, nl j)) k (t, b) j) := by
    funext j
    unfold put
    split <;> rfl
  have e := range_put (f := fun j => (ty j, nl j)) (g := fun (j : Nat) (p : Int × Bool) => (⟨nmB ⟨#[99]⟩ j, p.1, p.2⟩ : Cl)) (k := k) (v := (t, b))
  unfold colL
  rw [h]
  exact congrArg (List.cons _) e
theorem fcL_push (nl : Nat → Bool) (k : Nat) (b : Bool) : fcL (put nl k b) (k + 1) = fcL nl k ++ [⟨nmB ⟨#[102]⟩ k, 1, b⟩] := range_put (g := fun (j : Nat) (p : Bool) => (⟨nmB ⟨#[102]⟩ j, 1, p⟩ : Cl))
def MadeTb (i : Nat) (t : Tb) : Prop :=
  ∃ (fr ff : Nat) (ty : Nat → Int) (nl fnl : Nat → Bool) (tgt : Nat → Nat) (ul : List UR) (fl : List FR) (ck : List Ex) (s1 s2 s3 s4 : Sl) (pb : Nat),
    t = tbG (nmB ⟨#[116]⟩ i) s1 (colL ty nl fr ++ fcL fnl ff) pb s2 ul s3 fl s4 ck ∧ s1.len = 1 + fr + ff ∧ s2.len = ul.length ∧ s3.len = ff ∧ s4.len = ck.length ∧ 1 ≤ fr ∧ fr ≤ 3 ∧ ff ≤ 2 ∧ (∀ j, j < fr → IsTy (ty j)) ∧
    fl.map (fun r => (r.n, r.nm)) = (List.range ff).map (fun j => (((1 + fr + j : Nat) : Int), nmB ⟨#[116]⟩ (tgt j))) ∧ (∀ j, j < ff → tgt j < i) ∧ ul.length ≤ 1 ∧ (∀ r ∈ ul, 1 ≤ r.n ∧ r.n ≤ (fr : Nat)) ∧ ck.length ≤ 1 ∧ ∀ e ∈ ck, Made ((colL ty nl fr ++ fcL fnl ff).map Cl.ty) 2 2 e
structure OutG (T : Nat) (w : World) (i m : Nat) (v : Value) (tb : Nat → Tb) (los his : Nat → Nat) (wr : World) : Prop where
  tp : Tp T w wr
  tape : TapeAt T m wr
  b2 : wr.heap[w.heap.size]? = some (.cells #[.slice none 0 0] 28)
  b3 : wr.heap[w.heap.size + 1]? = some (.cells #[v] 28)
  own : wr.ownsRow (w.heap.size + 2) 55 6 v i ((List.range i).flatMap fun j => (tb j).cells)
  tabs : ∀ j, j < i → MadeTb j (tb j) ∧ TbO wr (tb j) (los j) (his j) ∧ w.heap.size + 2 ≤ los j ∧ his j ≤ wr.heap.size ∧ ∀ k, v.ownBlock = some k → ¬ (los j ≤ k ∧ k < his j)
  sep : ∀ j j', j < j' → j' < i → his j ≤ los j'
theorem outG_step {T i m m' pb xb : Nat} {w W wr w6 : World} {v v' cs us fs ks : Value} {tb : Nat → Tb} {los his : Nat → Nat} {nm : ByteArray} {t : Tb} {o : Obj} (hT : T < w.heap.size) (h : OutG T w i m v tb los his W) (hf : Fg T m' W xb pb nm cs us fs ks wr) (hM : MadeTb i t) (hI : TbO wr t W.heap.size wr.heap.size)
    (hg : (wr.alloc o).grownBy w6 v.ownBlock) (ho : w6.ownsRow (w.heap.size + 2) 55 6 v' (i + 1) (((List.range i).flatMap fun j => (tb j).cells) ++ t.cells)) (hat : v'.ownBlock = v.ownBlock ∨ v'.ownBlock = some (wr.alloc o).heap.size) :
    OutG T w (i + 1) m' v' (put tb i t) (put los i W.heap.size) (put his i wr.heap.size) (w6.setCell ⟨w.heap.size + 1, 0, none⟩ v') := by
  have hW := (Array.getElem?_eq_some_iff.1 h.b3).1
  have hws := hf.tp.size
  have h6 : wr.heap.size + 1 ≤ w6.heap.size := by have := hg.size; simpa using this
  have hv := fun k hk => h.own.lt k hk
  have keep : ∀ b, b < wr.heap.size → v.ownBlock ≠ some b → b ≠ w.heap.size + 1 → (w6.setCell ⟨w.heap.size + 1, 0, none⟩ v').heap[b]? = wr.heap[b]? := fun b hb hne hne2 =>
    (Below.heap_setCell _ _ _ _ hne2).trans ((hg.block b (by simp; omega) (fun e => hne e.symm)).trans (Below.heap_alloc _ _ _ hb))
  have hwW : ∀ b, b < W.heap.size → b ≠ T → wr.heap[b]? = W.heap[b]? := fun b hb hne => hf.tp.block b hb hne
  refine ⟨?_, ?_, ?_, ?_, ?_, fun j hj => ?_, fun j j' hjj hj' => ?_⟩
  · refine Tp.setCell (((h.tp.trans hf.tp).alloc o).grown hg fun k hk => ?_) (.inl (by show w.heap.size ≤ w.heap.size + 1; omega)) _
    have := (hv k hk).1
    omega
  · refine hf.tape.upto (Below.setCell (Below.grown ((Below.refl _ _).alloc (by have := hf.tape.lt; omega) _) hg (by have := hf.tape.lt; simp; omega) fun k hk => ?_) (by show T + 1 ≤ w.heap.size + 1; omega) _)
    have := (hv k hk).1
    omega
  · exact (keep _ (by omega) (fun e => by have := (hv _ e).1; omega) (by omega)).trans ((hwW _ (by omega) (by omega)).trans h.b2)
  · have hb3 : w6.heap[w.heap.size + 1]? = some (.cells #[v] 28) := (hg.block _ (by simp; omega) (fun e => by have := (hv _ e.symm).1; omega)).trans ((Below.heap_alloc _ _ _ (by omega)).trans ((hwW _ (by omega) (by omega)).trans h.b3))
    simp only [World.setCell, Array.getElem?_modify, hb3]
    simp
  · have e : ((List.range (i + 1)).flatMap fun j => (put tb i t j).cells) = ((List.range i).flatMap fun j => (tb j).cells) ++ t.cells := by
      rw [List.flatMap_def, List.flatMap_def, range_put (g := fun (_ : Nat) (p : Tb) => p.cells), List.flatten_append]
      simp
    rw [e]
    exact own_set ho fun k hk => by
      have := (ho.lt k hk).1
      omega
  · have hs6 : (w6.setCell ⟨w.heap.size + 1, 0, none⟩ v').heap.size = w6.heap.size := by simp [World.setCell]
    by_cases e : j = i
    · subst e
      rw [put_at, put_at, put_at]
      refine ⟨hM, hI.carry (fun b h1 h2 => keep b h2 (fun e => by have := (hv _ e).2; omega) (by omega)) (by omega), by omega, by omega, fun k hk => ?_⟩
      rcases hat with e | e
      · rw [e] at hk
        have := (hv k hk).2
        omega
      · rw [e] at hk
        simp at hk
        omega
    · have hji : j < i := by omega
      obtain ⟨t1, t2, t3, t4, t5⟩ := h.tabs j hji
      rw [put_lt hji, put_lt hji, put_lt hji]
      refine ⟨t1, t2.carry (fun b h1 h2 => (keep b (by omega) (fun e => t5 b e ⟨h1, h2⟩) (by omega)).trans (hwW b (by omega) (by omega))) (by omega), t3, by omega, fun k hk => ?_⟩
      rcases hat with e | e
      · rw [e] at hk
        exact t5 k hk
      · rw [e] at hk
        simp at hk
        omega
  · by_cases e : j' = i
    · subst e
      obtain ⟨_, _, _, t4, _⟩ := h.tabs j hjj
      rw [put_at, put_lt hjj]
      exact t4
    · have h2 : j' < i := by omega
      rw [put_lt h2, put_lt (by omega)]
      exact h.sep j j' hjj h2
def SchG (sl : Sl) (tb : Nat → Tb) : Prop := 1 ≤ sl.len ∧ sl.len ≤ 3 ∧ ∀ i, i < sl.len → MadeTb i (tb i)
theorem tabs_of {T i m : Nat} {w wr W : World} {v : Value} {tb : Nat → Tb} {los his : Nat → Nat} (h : OutG T w i m v tb los his wr) (hW : ∀ b, w.heap.size + 2 ≤ b → W.heap[b]? = wr.heap[b]?) (hs : wr.heap.size ≤ W.heap.size) : ∃ s : Sl, v = s.v ∧ s.len = i ∧ TabsAt W s tb := by
  obtain ⟨s, e, l, hsl⟩ := own_sl (cell := fun j => (tb j).cells) h.own fun a ha j hj => by
    have h1 := flat_at (fun j => (tb j).cells) 6 (fun _ => rfl) 0 (List.range i) a (by simpa using ha) j hj
    rw [h1]
    simp [List.getD, ha]
  exact ⟨s, e, l, (hsl.carry (fun b h1 _ => hW b h1) hs).1, fun j hj => by
    obtain ⟨_, t2, t3, t4, _⟩ := h.tabs j (by omega)
    exact (t2.carry (fun b h1 h2 => hW b (by omega)) hs).at_⟩
def SchO (W : World) (lo0 : Nat) (sl : Sl) (tb : Nat → Tb) : Prop :=
  W.ownsRow lo0 55 6 sl.v sl.len ((List.range sl.len).flatMap fun j => (tb j).cells) ∧ ∃ los his : Nat → Nat, (∀ j, j < sl.len → TbO W (tb j) (los j) (his j) ∧ lo0 ≤ los j ∧ his j ≤ W.heap.size ∧ ∀ k, sl.v.ownBlock = some k → ¬ (los j ≤ k ∧ k < his j)) ∧ ∀ j j', j < j' → j' < sl.len → his j ≤ los j'
theorem schO_of {T i m : Nat} {w wr W : World} {v : Value} {tb : Nat → Tb} {los his : Nat → Nat} (h : OutG T w i m v tb los his wr) (hW : ∀ b, w.heap.size + 2 ≤ b → W.heap[b]? = wr.heap[b]?) (hs : wr.heap.size ≤ W.heap.size) : ∃ s : Sl, v = s.v ∧ s.len = i ∧ TabsAt W s tb ∧ SchO W (w.heap.size + 2) s tb := by
  obtain ⟨s, e, l, hT⟩ := tabs_of h hW hs
  subst e l
  refine ⟨s, rfl, rfl, hT, own_block h.own fun k hk => hW k (h.own.lt k hk).1, los, his, fun j hj => ?_, h.sep⟩
  obtain ⟨_, t2, t3, t4, t5⟩ := h.tabs j hj
  exact ⟨t2.carry (fun b h1 _ => hW b (by omega)) hs, t3, by omega, t5⟩
end Go.Proofs.YtdmhmlnfoocnjaaGreatDoor
set_option linter.unusedVariables false
namespace Go.Proofs.YtdmhmlnfoocnjaaGreatDoor
open Go Go.RowKit Go.Deep
def tyL (f : Nat → Cl) (n : Nat) : List Int := (List.range n).map fun i => (f i).ty
theorem tyL_go (f : Nat → Cl) (n : Nat) : tyL f (n + 1) = tyL f n ++ [(f n).ty] := by simp [tyL, List.range_succ]
theorem tyL_len (f : Nat → Cl) (n : Nat) : (tyL f n).length = n := by simp [tyL]
set_option maxHeartbeats 4000000 in
set_option maxRecDepth 20000 in
theorem rTypesO_calls (t : Tb) (w : World) (h : TbAt w t) (hl : t.cs.len ≤ 1000) :
    Calls Tryz.prog 25 #[.agg #[.string t.name, .slice t.cs.a t.cs.len t.cs.cap, .slice t.ps.a t.ps.len t.ps.cap, .slice t.us.a t.us.len t.us.cap, .slice t.fs.a t.fs.len t.fs.cap, .slice t.ks.a t.ks.len t.ks.cap]] w fun r w' => ∃ v : Value, r = .returned v ∧ w'.ownsRow (w.heap.size + 1) 3 1 v (tyL t.col t.cs.len).length (flatI (tyL t.col t.cs.len)) ∧ Cls w w' := by
  obtain ⟨i0, hi, hz0, hz1, hz2⟩ := info_parts infoI
  have hle := h.cols.1
  have hmax := h.cols.2.1
  unfold maxLen at hmax
  have H := Lib.hid h.cols
  clear h
  obtain ⟨tn, ⟨sa, sn, sc⟩, f, tps, tprim, tus, tuq, tuqn, tfs, tfk, tfkn, tfkt, tks, tch⟩ := t
  simp only at hl hle hmax H ⊢
  go_enter Tryz.func25, Tryz.ntmps25
  go_wp2_with fail
  go_loopw [3, 4] (fun u i wr => ∃ j : Nat, j ≤ sn ∧ i = .int .i64 j ∧ wr.ownsRow (w.heap.size + 1) 3 1 u (tyL f j).length (flatI (tyL f j)) ∧ Cls (w.alloc (.cells #[.string tn, .slice sa sn sc, .slice tps.a tps.len tps.cap, .slice tus.a tus.len tus.cap, .slice tfs.a tfs.len tfs.cap, .slice tks.a tks.len tks.cap] 55)) wr) (fun _ i _ => sn - (intOf i).toNat)
  case atStart => exact ⟨0, Nat.zero_le _, rfl, World.ownsRow_nil _ _ _ 1, Cls.of (Below.refl _ _)⟩
  case round =>
    obtain ⟨j, hj, rfl, hown, x, rfl⟩ := hrel
    have HO := Lib.hid hown
    clear hown
    have xs := x.size
    have xs2 : w.heap.size + 1 ≤ x.val.heap.size := by simpa using xs
    have HLJ := Lib.hid (tyL_len f j)
    by_cases hlt : j < sn
    · obtain ⟨b, off, ha, hb2, hc⟩ := H.out.2.2.2 j hlt
      simp only at ha
      subst ha
      have q0 := hc 0 (by omega)
      have q1 := hc 1 (by omega)
      have q2 := hc 2 (by omega)
      simp only [Cl.cells, List.getElem?_cons_zero, List.getElem?_cons_succ, Nat.add_zero] at q0 q1 q2
      have hb1 : b < w.heap.size + 1 := by omega
      have HG0 := Lib.hid (tyL_go f j)
      clear hc
      generalize f j = c at q0 q1 q2 HG0
      go_wp2_with (at_builtin; refine wpList_append_own_at _ rfl _ _ 22 rfl (w.heap.size + 1) 3 i0 (.int .i64 0) 1 8 Tryz.underlying22 hi hz0 hz1 hz2 rfl (by decide) _ (tyL f j).length (flatI (tyL f j)) rfl (own_later HO.out (by repeat first|with_reducible exact Below.refl _ _|with_reducible refine Below.setCell ?_ (by first|omega|(simp;done)|(simp;omega)) _|with_reducible refine Below.alloc ?_ (by first|omega|(simp;done)|(simp;omega)) _|with_reducible refine Below.drew ?_|with_reducible refine Ext.on _ ?_ (by first|omega|(simp;done)|(simp;omega)))) ⟨x.val.heap.size, 0, none⟩ 1 1 [.int .i64 c.ty] rfl rfl (cells_new' _ _ _) (int_one _) (by have := HLJ.out; unfold maxLen; omega) (by have := HLJ.out; omega) (by simp; omega) ?_; intro v3 w3 hown3 hg3 _ hat3; have HO3 := Lib.hid hown3; have HG := Lib.hid hg3; clear hown3 hg3 hat3)
      go_roundw
      case rel =>
        refine ⟨j + 1, by omega, by go_num, by rw [HG0.out, List.length_append, flatI_append]; exact HO3.out, Cls.of (Below.mono (Below.grown (w := x.val.alloc _) ?_ HG.out (by simp; omega) (fun k hk => (HO.out.lt k hk).1)) (by simp))⟩
        repeat first|with_reducible exact Below.refl _ _|with_reducible refine Below.setCell ?_ (by first|omega|(simp;done)|(simp;omega)) _|with_reducible refine Below.alloc ?_ (by first|omega|(simp;done)|(simp;omega)) _|with_reducible refine Below.drew ?_|with_reducible refine Ext.on _ ?_ (by first|omega|(simp;done)|(simp;omega))
      case measure => simp [intOf]; omega
    · have hj2 : sn = j := by omega
      subst hj2
      go_wp2_with fail
      go_ret
      refine ⟨_, rfl, own_later HO.out (by repeat first|with_reducible exact Below.refl _ _|with_reducible refine Below.setCell ?_ (by first|omega|(simp;done)|(simp;omega)) _|with_reducible refine Below.alloc ?_ (by first|omega|(simp;done)|(simp;omega)) _|with_reducible refine Below.drew ?_|with_reducible refine Ext.on _ ?_ (by first|omega|(simp;done)|(simp;omega))), Cls.of ?_⟩
      repeat first|with_reducible exact Below.refl _ _|with_reducible refine Below.setCell ?_ (by first|omega|(simp;done)|(simp;omega)) _|with_reducible refine Below.alloc ?_ (by first|omega|(simp;done)|(simp;omega)) _|with_reducible refine Below.drew ?_|with_reducible refine Ext.on _ ?_ (by first|omega|(simp;done)|(simp;omega))
theorem tyL_colOf (cl : List Cl) (n : Nat) (h : n = cl.length) : tyL (fun i => cl.getD i default) n = cl.map Cl.ty := by
  subst h
  refine List.ext_getElem (by simp [tyL]) fun i h1 h2 => ?_
  have h3 : i < cl.length := by simpa using h2
  simp [tyL, List.getD, h3]
end Go.Proofs.YtdmhmlnfoocnjaaGreatDoor
set_option linter.unusedVariables false
namespace Go.Proofs.YtdmhmlnfoocnjaaGreatDoor
open Go Go.RowKit Go.Deep
theorem own_later' {w w' : World} {base size n : Nat} {e : TypeId} {v : Value} {xs : List Value} (h : w.ownsRow base e size v n xs) (hb : Below w.heap.size w w') : w'.ownsRow base e size v n xs := by
  refine ⟨h.1, h.2.imp id ?_⟩
  rintro ⟨g, cap, cur, hv, hg, hh, rest⟩
  exact ⟨g, cap, cur, hv, hg, (hb.block g (Array.getElem?_eq_some_iff.1 hh).1).trans hh, rest⟩
theorem sl_of {w : World} {base : Nat} {v : Value} {l : List Int} (h : w.ownsRow base 3 1 v l.length (flatI l)) : ∃ s : Sl, v = s.v ∧ s.len = l.length ∧ SlAt w 1 s (intC fun i => l.getD i 0) := by
  rcases h.2 with ⟨rfl, h0⟩ | ⟨g, cap, cur, rfl, hb, hh, hn, hc, hr, ht⟩
  · exact ⟨Sl.z, rfl, h0.symm, ⟨Nat.le_refl _, Nat.zero_le _, fun _ => ⟨rfl, rfl⟩, fun i hi => absurd hi (by simp [Sl.z])⟩⟩
  · refine ⟨⟨some ⟨g, 0, none⟩, l.length, cap⟩, rfl, rfl, ⟨hn, hc, (fun h => by cases h), fun i hi => ⟨g, 0, rfl, (Array.getElem?_eq_some_iff.1 hh).1, fun j hj => ?_⟩⟩⟩
    have hi2 : i < l.length := hi
    have hcell := World.ownsRow.cells h (g := g) rfl
    have hadd : ∀ j, (⟨g, 0, none⟩ : Addr).add j = ⟨g, 0 + j, none⟩ := fun j => by unfold Addr.add; split <;> simp_all
    have c0 := hcell i (.int .i64 (l.getD i 0)) (by simp [flatI, List.getD, hi2])
    rw [hadd] at c0
    obtain rfl : j = 0 := by omega
    rw [Nat.mul_one, Nat.add_zero, c0]; rfl
set_option maxHeartbeats 4000000 in
set_option maxRecDepth 20000 in
theorem rTypes_calls (t : Tb) (w : World) (h : TbAt w t) (hl : t.cs.len ≤ 1000) :
    Calls Tryz.prog 25 #[.agg #[.string t.name, .slice t.cs.a t.cs.len t.cs.cap, .slice t.ps.a t.ps.len t.ps.cap, .slice t.us.a t.us.len t.us.cap, .slice t.fs.a t.fs.len t.fs.cap, .slice t.ks.a t.ks.len t.ks.cap]] w fun r w' => ∃ s : Sl, r = .returned s.v ∧ s.len = t.cs.len ∧ SlAt w' 1 s (intC fun i => (tyL t.col t.cs.len).getD i 0) ∧ Cls w w' := by
  obtain ⟨i0, hi, hz0, hz1, hz2⟩ := info_parts infoI
  have hle := h.cols.1
  have hmax := h.cols.2.1
  unfold maxLen at hmax
  have H := Lib.hid h.cols
  clear h
  obtain ⟨tn, ⟨sa, sn, sc⟩, f, tps, tprim, tus, tuq, tuqn, tfs, tfk, tfkn, tfkt, tks, tch⟩ := t
  simp only at hl hle hmax H ⊢
  go_enter Tryz.func25, Tryz.ntmps25
  go_wp2_with fail
  go_loopw [3, 4] (fun u i wr => ∃ j : Nat, j ≤ sn ∧ i = .int .i64 j ∧ wr.ownsRow (w.heap.size + 1) 3 1 u (tyL f j).length (flatI (tyL f j)) ∧ Cls (w.alloc (.cells #[.string tn, .slice sa sn sc, .slice tps.a tps.len tps.cap, .slice tus.a tus.len tus.cap, .slice tfs.a tfs.len tfs.cap, .slice tks.a tks.len tks.cap] 55)) wr) (fun _ i _ => sn - (intOf i).toNat)
  case atStart => exact ⟨0, Nat.zero_le _, rfl, World.ownsRow_nil _ _ _ 1, Cls.of (Below.refl _ _)⟩
  case round =>
    obtain ⟨j, hj, rfl, hown, x, rfl⟩ := hrel
    have HO := Lib.hid hown
    clear hown
    have xs := x.size
    have xs2 : w.heap.size + 1 ≤ x.val.heap.size := by simpa using xs
    have HLJ := Lib.hid (tyL_len f j)
    by_cases hlt : j < sn
    · obtain ⟨b, off, ha, hb2, hc⟩ := H.out.2.2.2 j hlt
      simp only at ha
      subst ha
      have q0 := hc 0 (by omega)
      have q1 := hc 1 (by omega)
      have q2 := hc 2 (by omega)
      simp only [Cl.cells, List.getElem?_cons_zero, List.getElem?_cons_succ, Nat.add_zero] at q0 q1 q2
      have hb1 : b < w.heap.size + 1 := by omega
      have HG0 := Lib.hid (tyL_go f j)
      clear hc
      generalize f j = c at q0 q1 q2 HG0
      go_wp2_with (at_builtin; refine wpList_append_own_at _ rfl _ _ 22 rfl (w.heap.size + 1) 3 i0 (.int .i64 0) 1 8 Tryz.underlying22 hi hz0 hz1 hz2 rfl (by decide) _ (tyL f j).length (flatI (tyL f j)) rfl (own_later' HO.out (by repeat first|with_reducible exact Below.refl _ _|with_reducible refine Below.setCell ?_ (by first|omega|(simp;done)|(simp;omega)) _|with_reducible refine Below.alloc ?_ (by first|omega|(simp;done)|(simp;omega)) _|with_reducible refine Below.drew ?_|with_reducible refine Ext.on _ ?_ (by first|omega|(simp;done)|(simp;omega)))) ⟨x.val.heap.size, 0, none⟩ 1 1 [.int .i64 c.ty] rfl rfl (cells_new' _ _ _) (int_one _) (by have := HLJ.out; unfold maxLen; omega) (by have := HLJ.out; omega) (by simp; omega) ?_; intro v3 w3 hown3 hg3 _ hat3; have HO3 := Lib.hid hown3; have HG := Lib.hid hg3; clear hown3 hg3 hat3)
      go_roundw
      case rel =>
        refine ⟨j + 1, by omega, by go_num, by rw [HG0.out, List.length_append, flatI_append]; exact HO3.out, Cls.of (Below.mono (Below.grown (w := x.val.alloc _) ?_ HG.out (by simp; omega) (fun k hk => (HO.out.lt k hk).1)) (by simp))⟩
        repeat first|with_reducible exact Below.refl _ _|with_reducible refine Below.setCell ?_ (by first|omega|(simp;done)|(simp;omega)) _|with_reducible refine Below.alloc ?_ (by first|omega|(simp;done)|(simp;omega)) _|with_reducible refine Below.drew ?_|with_reducible refine Ext.on _ ?_ (by first|omega|(simp;done)|(simp;omega))
      case measure => simp [intOf]; omega
    · have hj2 : sn = j := by omega
      subst hj2
      obtain ⟨s, hs, hsl, hat⟩ := sl_of HO.out
      subst hs
      have hlen := tyL_len f sn
      have HS := Lib.hid hat
      have HL := Lib.hid (hsl.trans hlen)
      clear hat hsl hlen
      go_wp2_with fail
      go_ret
      refine ⟨s, rfl, HL.out, HS.out, Cls.of ?_⟩
      repeat first|with_reducible exact Below.refl _ _|with_reducible refine Below.setCell ?_ (by first|omega|(simp;done)|(simp;omega)) _|with_reducible refine Below.alloc ?_ (by first|omega|(simp;done)|(simp;omega)) _|with_reducible refine Below.drew ?_|with_reducible refine Ext.on _ ?_ (by first|omega|(simp;done)|(simp;omega))
end Go.Proofs.YtdmhmlnfoocnjaaGreatDoor
