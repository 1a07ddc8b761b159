/-
  The tape's expressions: what lies where, and the closure that makes two operands. The rows of a table that is being made, and the table that they give.
-/
import Derived.Test.YtpddkljedhghkaaDoorJ17
import Derived.Test.YtpddkljedhghkaaDoorJ04
set_option linter.unusedVariables false
namespace Go.Proofs.YtpddkljedhghkaaDoor
open Go Go.RowKit Go.Deep
/-- What lies from lo on is as it was. -/
structure Up (lo : Nat) (w w' : World) : Prop where
  size : w.heap.size ≤ w'.heap.size
  block : ∀ k, lo ≤ k → k < w.heap.size → w'.heap[k]? = w.heap[k]?
namespace Up
variable {lo : Nat} {w0 w : World}
theorem refl (lo : Nat) (w : World) : Up lo w w := ⟨Nat.le_refl _, fun _ _ _ => rfl⟩
theorem trans {a b c : World} (h : Up lo a b) (k : Up lo b c) : Up lo a c := ⟨Nat.le_trans h.size k.size, fun i h1 h2 => (k.block i h1 (Nat.lt_of_lt_of_le h2 h.size)).trans (h.block i h1 h2)⟩
theorem ext (h : Up lo w0 w) (x : Ext w) : Up lo w0 x.val := h.trans ⟨x.size, fun k _ h2 => x.below.block k h2⟩
theorem alloc (h : Up lo w0 w) (o : Obj) : Up lo w0 (w.alloc o) := h.trans ⟨by simp, fun k _ h2 => Below.heap_alloc _ _ _ h2⟩
theorem drew (h : Up lo w0 w) : Up lo w0 w.drew := h.trans ⟨Nat.le_refl _, fun _ _ _ => rfl⟩
theorem setCell (h : Up lo w0 w) {p : Addr} (hp : p.block < lo ∨ w0.heap.size ≤ p.block) (u : Value) : Up lo w0 (w.setCell p u) :=
  ⟨by simpa [World.setCell] using h.size, fun k h1 h2 => (Below.heap_setCell _ _ _ _ (by rcases hp with hp | hp <;> omega)).trans (h.block k h1 h2)⟩
theorem lat {T m : Nat} (z : Lat T m w) (h : Up lo w0 w) (hT : T < lo) : Up lo w0 z.val := h.trans ⟨z.size, fun k h1 h2 => z.tp.block k h2 (by omega)⟩
theorem grown {w' : World} {row : Option Nat} (h : Up lo w0 w) (hg : w.grownBy w' row) (hr : ∀ k, row = some k → k < lo ∨ w0.heap.size ≤ k) : Up lo w0 w' :=
  ⟨Nat.le_trans h.size hg.size, fun k h1 h2 => (hg.block k (Nat.lt_of_lt_of_le h2 h.size) (fun e => by have := hr k e.symm; omega)).trans (h.block k h1 h2)⟩
end Up
theorem Kids.up {lo : Nat} {w w' : World} {a : Option Addr} {len cap : Nat} {l : List Ex} (h : Kids w (fun b => lo ≤ b) a len cap l) (hu : Up lo w w') : Kids w' (fun b => lo ≤ b) a len cap l :=
  h.carry hu.size fun b hlt hok => ⟨hok, hu.block b hok hlt⟩
theorem Kids.low {lo lo' : Nat} {w : World} {a : Option Addr} {len cap : Nat} {l : List Ex} (h : Kids w (fun b => lo ≤ b) a len cap l) (hl : lo' ≤ lo) : Kids w (fun b => lo' ≤ b) a len cap l :=
  h.carry (Nat.le_refl _) fun b hlt hok => ⟨Nat.le_trans hl hok, rfl⟩
/-- A block of expressions, known whole, as Kids. -/
theorem kids_lit {W : World} {lo g : Nat} {rs : List Rec} (h : W.heap[g]? = some (.cells (flatR rs).toArray 30)) (hg : lo ≤ g) (hm : rs.length ≤ maxLen)
    (hr : ∀ r ∈ rs, r.e.fine ∧ Kids W (fun b => lo ≤ b) r.a r.len r.cap r.e.kids) : Kids W (fun b => lo ≤ b) (some ⟨g, 0, none⟩) rs.length rs.length (rs.map Rec.e) := by
  have hr' : ∀ i, i < rs.length → rs.getD i Rec.z ∈ rs := fun i hi => by simp [List.getD, hi]
  have he : ∀ i, i < rs.length → (rs.map Rec.e).getD i Ex.z = (rs.getD i Rec.z).e := fun i hi => by simp [List.getD, hi]
  refine .mk _ _ _ _ (fun i => (rs.getD i Rec.z).a) (fun i => (rs.getD i Rec.z).len) (fun i => (rs.getD i Rec.z).cap) (by simp) (Nat.le_refl _) hm (fun h => by cases h) (fun i hi => ?_) (fun i hi => by rw [he i hi]; exact (hr _ (hr' i hi)).1) (fun i hi => by rw [he i hi]; exact (hr _ (hr' i hi)).2)
  rw [he i hi]
  obtain ⟨f0, f1, f2, f3, f4, f5⟩ := flatR_at rs i hi
  have hc : ∀ j, W.cell? ⟨g, 0 + j, none⟩ = (flatR rs)[j]? := fun j => by
    rw [cell_of_row _ _ _ _ _ (0, 0) h, Nat.zero_add]; simp
  exact ⟨g, 0, rfl, (Array.getElem?_eq_some_iff.1 h).1, hg, by rw [hc]; exact f0, by rw [Nat.add_assoc, hc]; exact f1, by rw [Nat.add_assoc, hc]; exact f2, by rw [Nat.add_assoc, hc]; exact f3, by rw [Nat.add_assoc, hc]; exact f4, by rw [Nat.add_assoc, hc]; exact f5⟩
/-- The result's block R is written, and the Kids' block comes behind. -/
theorem node_end {T M : Nat} {w0 W : World} {R : Nat} {rs : List Rec} {u0 u1 u2 u3 u4 u5 : Value} (hA : Tq T M w0 W) (hR : w0.heap.size ≤ R) (hT : T < R) (hRW : R < W.heap.size) (hm : rs.length ≤ maxLen)
    (hr : ∀ r ∈ rs, r.e.fine ∧ Kids W (fun b => R + 1 ≤ b) r.a r.len r.cap r.e.kids) :
    Kids (((((((W.setCell ⟨R, 0, none⟩ u0).setCell ⟨R, 1, none⟩ u1).setCell ⟨R, 2, none⟩ u2).setCell ⟨R, 3, none⟩ u3).setCell ⟨R, 4, none⟩ u4).setCell ⟨R, 5, none⟩ u5).alloc (.cells (flatR rs).toArray 30)) (fun b => w0.heap.size ≤ b) (some ⟨W.heap.size, 0, none⟩) rs.length rs.length (rs.map Rec.e) ∧
    Tq T M w0 (((((((W.setCell ⟨R, 0, none⟩ u0).setCell ⟨R, 1, none⟩ u1).setCell ⟨R, 2, none⟩ u2).setCell ⟨R, 3, none⟩ u3).setCell ⟨R, 4, none⟩ u4).setCell ⟨R, 5, none⟩ u5).alloc (.cells (flatR rs).toArray 30)) := by
  have hS : ∃ S, S = (((((W.setCell ⟨R, 0, none⟩ u0).setCell ⟨R, 1, none⟩ u1).setCell ⟨R, 2, none⟩ u2).setCell ⟨R, 3, none⟩ u3).setCell ⟨R, 4, none⟩ u4).setCell ⟨R, 5, none⟩ u5 ∧ S.heap.size = W.heap.size ∧ Up (R + 1) W S ∧ Below R W S ∧ Tp T w0 S := by
    obtain ⟨x, rfl⟩ := hA
    refine ⟨_, rfl, by simp [World.setCell], ?_, ?_, ?_⟩
    · repeat (with_reducible refine Up.setCell ?_ (.inl (by simp)) _)
      exact Up.refl _ _
    · repeat (with_reducible refine Below.setCell ?_ (by simp) _)
      exact Below.refl _ _
    · repeat (with_reducible refine Tp.setCell ?_ (.inl (by simpa using hR)) _)
      exact x.tp
  obtain ⟨S, hS1, hS2, hS3, hS4, hS5⟩ := hS
  rw [← hS1, ← hS2]
  have hn := heap_alloc_new S (.cells (flatR rs).toArray 30)
  obtain ⟨x, rfl⟩ := hA
  have hxT := x.at_.lt
  refine ⟨Kids.low (lo := R + 1) ?_ (by omega), Tq.of (hS5.alloc _) (x.at_.upto ?_)⟩
  · exact kids_lit hn (by omega) hm (fun r hr' => ⟨(hr r hr').1, (hr r hr').2.up (hS3.alloc _)⟩)
  · exact (hS4.mono (by omega)).alloc (by omega) _
/-- A row of the call's own that holds these expressions; their Kids lie where ok says, and not in it. -/
def RowK (w : World) (ok : Nat → Prop) (base : Nat) (v : Value) (rs : List Rec) : Prop :=
  w.ownsRow base 30 6 v rs.length (flatR rs) ∧ ∀ r ∈ rs, r.e.fine ∧ Kids w (fun b => ok b ∧ v.ownBlock ≠ some b) r.a r.len r.cap r.e.kids
theorem own_keep {w w' : World} {base size n : Nat} {e : TypeId} {v : Value} {xs : List Value} (h : w.ownsRow base e size v n xs) (hb : ∀ k, v.ownBlock = some k → w'.heap[k]? = w.heap[k]?) : w'.ownsRow base e size v n xs := by
  refine ⟨h.1, h.2.imp id ?_⟩
  rintro ⟨g, cap, cur, rfl, hg, hh, rest⟩
  exact ⟨g, cap, cur, rfl, hg, (hb g rfl).trans hh, rest⟩
theorem own_low {w : World} {base base' size n : Nat} {e : TypeId} {v : Value} {xs : List Value} (h : w.ownsRow base e size v n xs) (hb : base' ≤ base) : w.ownsRow base' e size v n xs := by
  refine ⟨h.1, h.2.imp id ?_⟩
  rintro ⟨g, cap, cur, hv, hg, rest⟩
  exact ⟨g, cap, cur, hv, Nat.le_trans hb hg, rest⟩
theorem RowK.carry {w w' : World} {ok ok' : Nat → Prop} {base base' : Nat} {v : Value} {rs : List Rec} (h : RowK w ok base v rs) (hbase : base' ≤ base) (hs : w.heap.size ≤ w'.heap.size) (hg : ∀ k, v.ownBlock = some k → w'.heap[k]? = w.heap[k]?)
    (hb : ∀ b, b < w.heap.size → ok b → v.ownBlock ≠ some b → ok' b ∧ w'.heap[b]? = w.heap[b]?) : RowK w' ok' base' v rs :=
  ⟨own_low (own_keep h.1 hg) hbase, fun r hr => ⟨(h.2 r hr).1, (h.2 r hr).2.carry hs fun b hlt ⟨h1, h2⟩ => ⟨⟨(hb b hlt h1 h2).1, h2⟩, (hb b hlt h1 h2).2⟩⟩⟩
theorem RowK.push {w1 w3 : World} {ok : Nat → Prop} {base : Nat} {v v' : Value} {rs : List Rec} {r : Rec} {o : Obj} (h : RowK w1 ok base v rs) (hf : r.e.fine) (hk : Kids w1 (fun b => ok b ∧ v.ownBlock ≠ some b) r.a r.len r.cap r.e.kids)
    (hown : w3.ownsRow base 30 6 v' (rs.length + 1) (flatR rs ++ r.cells)) (hg : (w1.alloc o).grownBy w3 v.ownBlock) (hat : v'.ownBlock = v.ownBlock ∨ v'.ownBlock = some (w1.alloc o).heap.size) : RowK w3 ok base v' (rs ++ [r]) := by
  have hs2 : (w1.alloc o).heap.size = w1.heap.size + 1 := by simp
  have hs3 := hg.size
  have hblk : ∀ b, b < w1.heap.size → v.ownBlock ≠ some b → v'.ownBlock ≠ some b ∧ w3.heap[b]? = w1.heap[b]? := fun b hlt' hne => by
    refine ⟨?_, (hg.block b (by omega) (fun e => hne e.symm)).trans (Below.heap_alloc _ _ _ hlt')⟩
    rcases hat with e | e <;> rw [e]
    · exact hne
    · rw [hs2]; intro e; injection e; omega
  refine ⟨?_, fun q hq => ?_⟩
  · rw [List.length_append, flatR_append]
    simpa [flatR] using hown
  · rcases List.mem_append.1 hq with hq | hq
    · obtain ⟨f, hk0⟩ := h.2 q hq
      refine ⟨f, hk0.carry (by omega) fun b hlt' ⟨hb1, hb2⟩ => ?_⟩
      obtain ⟨g1, g2⟩ := hblk b hlt' hb2
      exact ⟨⟨hb1, g1⟩, g2⟩
    · obtain rfl : q = r := by simpa using hq
      refine ⟨hf, hk.carry (by omega) fun b hlt' ⟨hb1, hb2⟩ => ?_⟩
      obtain ⟨g1, g2⟩ := hblk b hlt' hb2
      exact ⟨⟨hb1, g1⟩, g2⟩
theorem RowK.kids {w : World} {ok ok' : Nat → Prop} {base : Nat} {v : Value} {rs : List Rec} (h : RowK w ok base v rs) (hg : ∀ g, v.ownBlock = some g → ok' g) (h01 : ∀ b, ok b → ok' b) : ∃ a cap, v = .slice a rs.length cap ∧ Kids w ok' a rs.length cap (rs.map Rec.e) := by
  have hr : ∀ i, i < rs.length → rs.getD i Rec.z ∈ rs := fun i hi => by simp [List.getD, hi]
  have he : ∀ i, i < rs.length → (rs.map Rec.e).getD i Ex.z = (rs.getD i Rec.z).e := fun i hi => by simp [List.getD, hi]
  have hin : ∀ i, i < rs.length → (rs.getD i Rec.z).e.fine ∧ Kids w ok' (rs.getD i Rec.z).a (rs.getD i Rec.z).len (rs.getD i Rec.z).cap (rs.getD i Rec.z).e.kids := fun i hi => by
    obtain ⟨f, hk⟩ := h.2 _ (hr i hi)
    exact ⟨f, hk.carry (Nat.le_refl _) fun b _ ⟨h1, _⟩ => ⟨h01 b h1, rfl⟩⟩
  rcases h.1.2 with ⟨rfl, h0⟩ | ⟨g, cap, cur, rfl, hb, hh, hn, hc, hs, ht⟩
  · have : rs = [] := List.eq_nil_of_length_eq_zero h0
    subst this
    exact ⟨none, 0, rfl, .none⟩
  · refine ⟨some ⟨g, 0, none⟩, cap, rfl, .mk _ _ _ _ (fun i => (rs.getD i Rec.z).a) (fun i => (rs.getD i Rec.z).len) (fun i => (rs.getD i Rec.z).cap) (by simp) hn hc (fun h => by cases h) (fun i hi => ?_) (fun i hi => by rw [he i hi]; exact (hin i hi).1) (fun i hi => by rw [he i hi]; exact (hin i hi).2)⟩
    rw [he i hi]
    have hcell := World.ownsRow.cells h.1 (g := g) rfl
    have hadd : ∀ j, (⟨g, 0, none⟩ : Addr).add j = ⟨g, 0 + j, none⟩ := fun j => by unfold Addr.add; split <;> simp_all
    obtain ⟨f0, f1, f2, f3, f4, f5⟩ := flatR_at rs i hi
    have c0 := hcell _ _ f0
    have c1 := hcell _ _ f1
    have c2 := hcell _ _ f2
    have c3 := hcell _ _ f3
    have c4 := hcell _ _ f4
    have c5 := hcell _ _ f5
    rw [hadd] at c0 c1 c2 c3 c4 c5
    exact ⟨g, 0, rfl, (Array.getElem?_eq_some_iff.1 hh).1, hg g rfl, c0, c1, c2, c3, c4, c5⟩
/-- The same end, with the row in hand. -/
theorem node_row {T M : Nat} {w0 W : World} {R : Nat} {rs : List Rec} {u0 u1 u2 u3 u4 u5 : Value} (hA : Tq T M w0 W) (hR : w0.heap.size ≤ R) (hRW : R < W.heap.size) (hm : rs.length ≤ maxLen)
    (hr : ∀ r ∈ rs, r.e.fine ∧ Kids W (fun b => R + 1 ≤ b) r.a r.len r.cap r.e.kids) :
    RowK (((((((W.setCell ⟨R, 0, none⟩ u0).setCell ⟨R, 1, none⟩ u1).setCell ⟨R, 2, none⟩ u2).setCell ⟨R, 3, none⟩ u3).setCell ⟨R, 4, none⟩ u4).setCell ⟨R, 5, none⟩ u5).alloc (.cells (flatR rs).toArray 30)) (fun b => R + 1 ≤ b) w0.heap.size (.slice (some ⟨W.heap.size, 0, none⟩) rs.length rs.length) rs := by
  have hS : ∃ S, S = (((((W.setCell ⟨R, 0, none⟩ u0).setCell ⟨R, 1, none⟩ u1).setCell ⟨R, 2, none⟩ u2).setCell ⟨R, 3, none⟩ u3).setCell ⟨R, 4, none⟩ u4).setCell ⟨R, 5, none⟩ u5 ∧ S.heap.size = W.heap.size ∧ Up (R + 1) W S := by
    refine ⟨_, rfl, by simp [World.setCell], ?_⟩
    repeat (with_reducible refine Up.setCell ?_ (.inl (by simp)) _)
    exact Up.refl _ _
  obtain ⟨S, hS1, hS2, hS3⟩ := hS
  rw [← hS1, ← hS2]
  have hn := heap_alloc_new S (.cells (flatR rs).toArray 30)
  refine ⟨⟨flatR_length rs, .inr ⟨S.heap.size, rs.length, (flatR rs).toArray, rfl, by omega, hn, Nat.le_refl _, hm, by simp [flatR_length], ?_⟩⟩, fun r hr' => ⟨(hr r hr').1, (hr r hr').2.carry (by simp; omega) fun b hlt hb => ⟨⟨hb, ?_⟩, (Below.heap_alloc _ _ _ (by omega)).trans (hS3.block b hb hlt)⟩⟩⟩
  · rw [List.take_of_length_le]
    simp [flatR_length]
  · simp [Value.ownBlock]; omega
/-- What the tape's Expr gives at a depth, with so many readings of the tape. -/
def ExprG (d δ B : Nat) : Prop := ∀ (T m : Nat) (ty : List Int) (k : Int) (a : Option Addr) (len cap : Nat) (w : World), TapeAt T m w → IntsAt T w a len cap ty → IsTy k → m + B ≤ 2 ^ 60 → len ≤ 1000 →
    Calls Tryd.prog 9 #[.pointer (some ⟨T, 0, none⟩), .slice a len cap, .int .i64 k, .int .i64 (d : Nat)] w fun r w' => MadeBy T (m + B) δ ty k w r w'
def ExprOf (d B : Nat) : Prop := ExprG d d B
theorem ExprG.call {d δ B : Nat} (h : ExprG d δ B) (T m : Nat) (ty : List Int) (k : Int) (a : Option Addr) (len cap : Nat) (w : World) (h1 : TapeAt T m w) (h2 : IntsAt T w a len cap ty) (h3 : IsTy k) (h4 : m + B ≤ 2 ^ 60) (h5 : len ≤ 1000) :
    Calls Tryd.prog 9 #[.pointer (some ⟨T, 0, none⟩), .slice a len cap, .int .i64 k, .int .i64 (d : Nat)] w fun r w' => MadeBy T (m + B) δ ty k w r w' := h T m ty k a len cap w h1 h2 h3 h4 h5
theorem ExprOf.call {d B : Nat} (h : ExprOf d B) (T m : Nat) (ty : List Int) (k : Int) (a : Option Addr) (len cap : Nat) (w : World) (h1 : TapeAt T m w) (h2 : IntsAt T w a len cap ty) (h3 : IsTy k) (h4 : m + B ≤ 2 ^ 60) (h5 : len ≤ 1000) :
    Calls Tryd.prog 9 #[.pointer (some ⟨T, 0, none⟩), .slice a len cap, .int .i64 k, .int .i64 (d : Nat)] w fun r w' => MadeBy T (m + B) d ty k w r w' := h T m ty k a len cap w h1 h2 h3 h4 h5
/-- One walk of the text's order serves every order, in whatever class the region's start is. -/
theorem wp_region_lin_in {P : Program} {C : World → Prop} {id : Nat} {Q : Exit → Act → World → Prop} {a : Act} {w : World} {l : List Oper} (hC : ∀ x : Ext w, C x.val) (hm : P.follows .mixedOrders = true) (hB : linB .any l.toArray = true)
    (h : ∀ x : Ext w, wpLin P l.toArray C (fun a' w' => Q .normal a' w') l a x.val) : (Code.region id l.toArray true).wp P Q a w := by
  obtain ⟨x, hx⟩ := Cls.start w
  refine wp_region_any hm ?_
  have h1 := lexI_of_lin (C := C) l 0 a x.val (by simp) (h x)
  rw [hx]
  refine wpAny_of_lexI (C := C) (Q := fun a' w' => Q .normal a' w') hB (fun _ _ h => h) _ (List.range' 0 l.length) _ a x.val (by simp) List.pairwise_lt_range' (fun j => ?_) (by simp) ?_ (.inr (hC x)) h1
  · rw [List.mem_range'_1]
    simp only [List.size_toArray]
    constructor
    · intro hj
      have : j < l.length := by omega
      exact ⟨this, by simp [this]⟩
    · intro hj; omega
  · intro j oj hj hl
    rw [getD_replicate_false] at hl
    cases hl
theorem lat_start {T m : Nat} {w : World} (h : TapeAt T m w) (x : Ext w) : ∃ y : Lat T m w, x.val = y.val := ⟨⟨x.val, Tp.ofBelow x.below, h.later x.below⟩, rfl⟩
set_option maxHeartbeats 4000000 in
set_option maxRecDepth 20000 in
theorem two_calls (d δ B : Nat) (hE : ExprG d δ B) (T m : Nat) (ty : List Int) (op x : Int) (a : Option Addr) (len cap : Nat) (b4 b5 b7 : Nat) (w : World) (h : TapeAt T m w) (ht : IntsAt T w a len cap ty) (hx : IsTy x) (hm : m + 2 * B ≤ 2 ^ 60) (hlen : len ≤ 1000) (hd : d ≤ 100)
    (h4 : w.heap[b4]? = some (.cells #[.pointer (some ⟨T, 0, none⟩)] 23)) (h5 : w.heap[b5]? = some (.cells #[.slice a len cap] 22)) (h7 : w.heap[b7]? = some (.cells #[.int .i64 ((d : Nat) + 1 : Int)] 3)) (hb4 : b4 ≠ T) (hb5 : b5 ≠ T) (hb7 : b7 ≠ T) :
    Calls Tryd.prog 28 #[.int .i64 op, .int .i64 x, .pointer (some ⟨b4, 0, none⟩), .pointer (some ⟨b5, 0, none⟩), .pointer (some ⟨b7, 0, none⟩)] w fun r w' =>
      ∃ (e1 e2 : Ex) (a' : Option Addr) (cap' : Nat), r = .returned (.agg #[.int .i64 op, .int .i64 0, .int .i64 0, .string ⟨#[]⟩, .int .i64 0, .slice a' 2 cap']) ∧ Made ty δ x e1 ∧ Made ty δ x e2 ∧ Kids w' (fun b => w.heap.size ≤ b) a' 2 cap' [e1, e2] ∧ (∃ rs : List Rec, rs.map Rec.e = [e1, e2] ∧ RowK w' (fun b => w.heap.size + 1 ≤ b) w.heap.size (.slice a' 2 cap') rs) ∧ Tq T (m + 2 * B) w w' := by
  have hT := h.lt
  have H := Lib.hid h
  have HT := Lib.hid ht
  have HX := Lib.hid hx
  have HE := Lib.hid hE
  have g4 : w.cell? ⟨b4, 0, none⟩ = some (.pointer (some ⟨T, 0, none⟩)) := by rw [cell_of_row _ _ _ _ _ (0, 0) h4]; rfl
  have g5 : w.cell? ⟨b5, 0, none⟩ = some (.slice a len cap) := by rw [cell_of_row _ _ _ _ _ (0, 0) h5]; rfl
  have g7 : w.cell? ⟨b7, 0, none⟩ = some (.int .i64 ((d : Nat) + 1 : Int)) := by rw [cell_of_row _ _ _ _ _ (0, 0) h7]; rfl
  have s4 := (Array.getElem?_eq_some_iff.1 h4).1
  have s5 := (Array.getElem?_eq_some_iff.1 h5).1
  have s7 := (Array.getElem?_eq_some_iff.1 h7).1
  clear h ht hx hE h4 h5 h7
  go_enter Tryd.func28, Tryd.ntmps28
  go_wp2_with (go_at_call 9; ((with_reducible refine (HE.out.call T m ty x a len cap _ (H.out.later ((Below.refl _ _).alloc (Nat.le_refl _) _)) (HT.out.tp ((Tp.refl _ _).alloc _)) HX.out (by omega) hlen).mono ?_); rintro r1 w1 hq; obtain ⟨e1, a1, n1, c1, rfl, hmade, hfine, hkids, z, rfl⟩ := hq; have HM1 := Lib.hid hmade; have HF1 := Lib.hid hfine; have HK1 := Lib.hid hkids; clear hmade hfine hkids; have zs := z.size))
  have zs2 : w.heap.size + 1 ≤ z.val.heap.size := by simpa using zs
  have HT2 : Hid (TapeAt T (m + B) (z.val.alloc (.cells #[.int .i64 e1.op, .int .i64 e1.ty, .int .i64 e1.num, .string e1.text, .int .i64 e1.col, .slice a1 n1 c1] 30))) := Lib.hid (z.at_.later ((Below.refl _ _).alloc (Nat.le_refl _) _))
  haveI : Nonempty (Lat T (m + 2 * B) (z.val.alloc (.cells #[.int .i64 e1.op, .int .i64 e1.ty, .int .i64 e1.num, .string e1.text, .int .i64 e1.col, .slice a1 n1 c1] 30))) := ⟨⟨_, Tp.refl _ _, HT2.out.mono (by omega)⟩⟩
  have p4 : b4 < z.val.heap.size := by omega
  have p5 : b5 < z.val.heap.size := by omega
  have p7 : b7 < z.val.heap.size := by omega
  have p41 : b4 < z.val.heap.size + 1 := by omega
  have p51 : b5 < z.val.heap.size + 1 := by omega
  have p71 : b7 < z.val.heap.size + 1 := by omega
  have p42 : b4 < w.heap.size + 1 := by omega
  have p52 : b5 < w.heap.size + 1 := by omega
  have p72 : b7 < w.heap.size + 1 := by omega
  have pz : z.val.heap.size ≠ T := by omega
  refine wp_region_lin_in (C := fun w' => ∃ y : Lat T (m + 2 * B) (z.val.alloc (.cells #[.int .i64 e1.op, .int .i64 e1.ty, .int .i64 e1.num, .string e1.text, .int .i64 e1.col, .slice a1 n1 c1] 30)), w' = y.val) (fun x => lat_start (HT2.out.mono (by omega)) x) (by kernel_rfl) (by kernel_rfl) ?_
  intro x0
  have x0s := x0.size
  repeat (refine lin_calm rfl ?_; intro KK hKK; go_big_quiet_step (fail); refine wpQuiet_nil ?_; refine hKK _ ?_; clear hKK KK)
  refine lin_free rfl ?_
  intro KK hKK
  go_wp2_with (go_at_call 9; ((with_reducible refine (HE.out.call T (m + B) ty x a len cap _ (HT2.out.later x0.below) ((((HT.out.tp ((Tp.refl _ _).alloc _)).tp z.tp).tp ((Tp.refl _ _).alloc _)).tp (Tp.ofBelow x0.below)) HX.out (by omega) hlen).mono ?_); rintro r1 w1 hq; obtain ⟨e2, a2, n2, c2, rfl, hmade, hfine, hkids, z2, rfl⟩ := hq; have HM2 := Lib.hid hmade; have HF2 := Lib.hid hfine; have HK2 := Lib.hid hkids; clear hmade hfine hkids; have z2s := z2.size))
  refine hKK _ _ (.inr ⟨⟨_, z2.on (Tp.ofBelow x0.below), z2.at_.mono (by omega)⟩, rfl⟩) ?_
  clear hKK KK
  refine lin_free rfl ?_
  intro KK hKK
  go_wp2_with fail
  refine hKK _ _ (.inr ⟨⟨_, (z2.on (Tp.ofBelow x0.below)).alloc _, (z2.at_.mono (by omega)).later ((Below.refl _ _).alloc (Nat.le_refl _) _)⟩, rfl⟩) ?_
  clear hKK KK
  refine lin_free rfl ?_
  intro KK hKK
  go_wp2_with fail
  refine hKK _ _ (.inr ⟨⟨_, (z2.on (Tp.ofBelow x0.below)).alloc _, (z2.at_.mono (by omega)).later ((Below.refl _ _).alloc (Nat.le_refl _) _)⟩, rfl⟩) ?_
  clear hKK KK
  refine lin_free rfl ?_
  intro KK hKK
  have x0s2 : z.val.heap.size + 1 ≤ x0.val.heap.size := by simpa using x0s
  have hTn : w.heap.size ≠ T := by omega
  have hB0 : z.val.heap[w.heap.size]? = some (.cells #[.int .i64 0, .int .i64 0, .int .i64 0, .string ⟨#[]⟩, .int .i64 0, .slice none 0 0] 30) := (z.tp.block _ (by simp) hTn).trans (heap_alloc_new w _)
  have hB1 : z2.val.heap[w.heap.size]? = some (.cells #[.int .i64 0, .int .i64 0, .int .i64 0, .string ⟨#[]⟩, .int .i64 0, .slice none 0 0] 30) := (z2.tp.block _ (by omega) hTn).trans ((x0.below.block _ (by simp; omega)).trans ((Below.heap_alloc _ _ _ (by omega)).trans hB0))
  obtain ⟨b0, f0, f1, f2, f3, f4, f5, k0, k1, k2, k3, k4, k5⟩ := six hB1
  clear hB0 hB1
  go_wp2_with fail
  refine hKK _ _ (.inl trivial) ?_
  clear hKK KK
  refine lin_nil ?_
  go_wp2_with fail
  refine ret_ex rfl ?_
  simp [results, Tryd.results28, go_sem, b0, k0, k1, k2, k3, k4, k5]
  have hk1 : Kids z.val (fun b => w.heap.size + 1 ≤ b) a1 n1 c1 e1.kids := by
    have := HK1.out
    rw [show (w.alloc (.cells #[.int .i64 0, .int .i64 0, .int .i64 0, .string ⟨#[]⟩, .int .i64 0, .slice none 0 0] 30)).heap.size = w.heap.size + 1 by simp] at this
    exact this
  have hk2 := HK2.out
  have hf1 := HF1.out
  have hf2 := HF2.out
  have hm1 := HM1.out
  have hm2 := HM2.out
  clear HK1 HK2 HF1 HF2 HM1 HM2 HE HT2 HT H k0 k1 k2 k3 k4 k5 f0 f1 f2 f3 f4 f5 this
  have hA : Tq T (m + 2 * B) w z2.val := Tq.of (z2.on ((((Tp.refl _ _).alloc _).trans z.tp |>.alloc _).ext x0)) (z2.at_.mono (by omega))
  have hu1 : Up (w.heap.size + 1) z.val z2.val := Up.lat z2 (((Up.refl _ _).alloc _).ext x0) (by omega)
  have hk3 := hk1.up hu1
  have hk4 : Kids z2.val (fun b => w.heap.size + 1 ≤ b) a2 n2 c2 e2.kids := hk2.low (by omega)
  have hr2 : ∀ r ∈ [(⟨e1, a1, n1, c1⟩ : Rec), ⟨e2, a2, n2, c2⟩], r.e.fine ∧ Kids z2.val (fun b => w.heap.size + 1 ≤ b) r.a r.len r.cap r.e.kids := fun r hr => by
    simp only [List.mem_cons, List.not_mem_nil, or_false] at hr
    rcases hr with rfl | rfl
    · exact ⟨hf1, hk3⟩
    · exact ⟨hf2, hk4⟩
  have hN := fun u0 u1 u2 u3 u4 u5 => node_end (u0 := u0) (u1 := u1) (u2 := u2) (u3 := u3) (u4 := u4) (u5 := u5) (R := w.heap.size) (rs := [⟨e1, a1, n1, c1⟩, ⟨e2, a2, n2, c2⟩]) hA (Nat.le_refl _) hT b0 (by unfold maxLen; simp) hr2
  have hO := fun u0 u1 u2 u3 u4 u5 => node_row (u0 := u0) (u1 := u1) (u2 := u2) (u3 := u3) (u4 := u4) (u5 := u5) (R := w.heap.size) (rs := [⟨e1, a1, n1, c1⟩, ⟨e2, a2, n2, c2⟩]) hA (Nat.le_refl _) b0 (by unfold maxLen; simp) hr2
  simp only [flatR, Rec.cells, List.append_nil, List.cons_append, List.nil_append, List.length_cons, List.length_nil, List.map_cons, List.map_nil] at hN hO
  obtain ⟨hK, hQ⟩ := hN (.int .i64 op) (.int .i64 0) (.int .i64 0) (.string ⟨#[]⟩) (.int .i64 0) (.slice (some ⟨z2.val.heap.size, 0, none⟩) 2 2)
  have hO2 := hO (.int .i64 op) (.int .i64 0) (.int .i64 0) (.string ⟨#[]⟩) (.int .i64 0) (.slice (some ⟨z2.val.heap.size, 0, none⟩) 2 2)
  exact ⟨e1, e2, some ⟨z2.val.heap.size, 0, none⟩, 2, ⟨rfl, rfl⟩, hm1, hm2, hK, ⟨_, rfl, hO2⟩, hQ⟩
end Go.Proofs.YtpddkljedhghkaaDoor
set_option linter.unusedVariables false
namespace Go.Proofs.YtpddkljedhghkaaDoor
open Go Go.RowKit Go.Deep
theorem flat_at {α : Type} (g : α → List Value) (k : Nat) (hg : ∀ a, (g a).length = k) (d : α) : ∀ (l : List α) (i : Nat), i < l.length → ∀ j, j < k → (l.flatMap g)[i * k + j]? = (g (l.getD i d))[j]?
  | [], i, h, _, _ => by simp at h
  | x :: l, 0, _, j, hj => by
    have hx := hg x
    rw [List.flatMap_cons, Nat.zero_mul, Nat.zero_add, List.getElem?_append_left (by omega)]
    rfl
  | x :: l, i + 1, h, j, hj => by
    have hx := hg x
    have ih := flat_at g k hg d l i (by simpa using h) j hj
    rw [List.flatMap_cons, List.getElem?_append_right (by rw [Nat.succ_mul]; omega), show (i + 1) * k + j - (g x).length = i * k + j by rw [Nat.succ_mul]; omega, ih]
    rfl
theorem flat_len {α : Type} (g : α → List Value) (k : Nat) (hg : ∀ a, (g a).length = k) (l : List α) : (l.flatMap g).length = l.length * k := by
  induction l with
  | nil => simp
  | cons x l ih =>
    rw [List.flatMap_cons, List.length_append, ih, hg, List.length_cons, Nat.succ_mul]
    omega
theorem Cl.cells_len (c : Cl) : c.cells.length = 3 := rfl
/-- A foreign key: the block of its column's number, that number, and the name of its table. -/
structure FR where
  b : Nat
  n : Int
  nm : ByteArray
instance : Inhabited FR := ⟨⟨0, 0, ⟨#[]⟩⟩⟩
def FR.cells (r : FR) : List Value := [.slice (some ⟨r.b, 0, none⟩) 1 1, .string r.nm]
theorem FR.cells_len (r : FR) : r.cells.length = 2 := rfl
/-- A unique key: the block of its column's number, and that number. -/
structure UR where
  b : Nat
  n : Int
instance : Inhabited UR := ⟨⟨0, 0⟩⟩
def UR.cells (r : UR) : List Value := [.slice (some ⟨r.b, 0, none⟩) 1 1]
theorem UR.cells_len (r : UR) : r.cells.length = 1 := rfl
/-- The table that these rows give. -/
def tbG (nm : ByteArray) (cs : Sl) (cl : List Cl) (pb : Nat) (us : Sl) (ul : List UR) (fs : Sl) (fl : List FR) (ks : Sl) (ck : List Ex) : Tb :=
  ⟨nm, cs, fun i => cl.getD i default, ⟨some ⟨pb, 0, none⟩, 1, 1⟩, fun _ => 0, us, fun i => ⟨some ⟨(ul.getD i default).b, 0, none⟩, 1, 1⟩, fun i _ => (ul.getD i default).n, fs, fun i => ⟨some ⟨(fl.getD i default).b, 0, none⟩, 1, 1⟩, fun i _ => (fl.getD i default).n, fun i => (fl.getD i default).nm, ks, ck⟩
/-- Rows of different elements lie in different blocks. -/
theorem own_own {w : World} {b1 b2 s1 s2 n1 n2 : Nat} {e1 e2 : TypeId} {v1 v2 : Value} {x1 x2 : List Value} (h1 : w.ownsRow b1 e1 s1 v1 n1 x1) (h2 : w.ownsRow b2 e2 s2 v2 n2 x2) (he : e1 ≠ e2) : ∀ k, v1.ownBlock = some k → v2.ownBlock ≠ some k := by
  intro k hk hk2
  rcases h1.2 with ⟨rfl, _⟩ | ⟨g, cap, cur, rfl, _, hh, _⟩
  · simp [Value.ownBlock] at hk
  · simp [Value.ownBlock] at hk
    subst hk
    exact own_ne_z h2 hh he g hk2 rfl
theorem own_beside {w w' : World} {b1 b2 s1 s2 n1 n2 : Nat} {e1 e2 : TypeId} {v1 v2 : Value} {x1 x2 : List Value} (h1 : w.ownsRow b1 e1 s1 v1 n1 x1) (h2 : w.ownsRow b2 e2 s2 v2 n2 x2) (he : e1 ≠ e2) (hg : w.grownBy w' v2.ownBlock) : w'.ownsRow b1 e1 s1 v1 n1 x1 :=
  own_block h1 fun k hk => hg.block k (h1.lt k hk).2 fun e => own_own h1 h2 he k hk e.symm
theorem blk_beside {w w' : World} {b b2 s2 n2 : Nat} {e2 t : TypeId} {v2 : Value} {x2 : List Value} {cs : Array Value} (h : w.heap[b]? = some (.cells cs t)) (h2 : w.ownsRow b2 e2 s2 v2 n2 x2) (he : t ≠ e2) (hg : w.grownBy w' v2.ownBlock) : w'.heap[b]? = some (.cells cs t) :=
  (hg.block b (Array.getElem?_eq_some_iff.1 h).1 fun e => own_ne_z h2 h he b e.symm rfl).trans h
/-- The rows, as memory holds them behind the height lo. -/
structure RowsG (lo xb : Nat) (cs us fs ks : Value) (cl : List Cl) (ul : List UR) (fl : List FR) (rs : List Rec) (wr : World) : Prop where
  c : wr.ownsRow lo 55 3 cs cl.length (cl.flatMap Cl.cells)
  u : wr.ownsRow lo 22 1 us ul.length (ul.flatMap UR.cells)
  ub : ∀ r ∈ ul, lo ≤ r.b ∧ wr.heap[r.b]? = some (.cells #[.int .i64 r.n] 3)
  f : wr.ownsRow lo 57 2 fs fl.length (fl.flatMap FR.cells)
  fb : ∀ r ∈ fl, lo ≤ r.b ∧ wr.heap[r.b]? = some (.cells #[.int .i64 r.n] 3)
  k : RowK wr (fun b => lo ≤ b ∧ b ≠ xb ∧ cs.ownBlock ≠ some b ∧ us.ownBlock ≠ some b ∧ fs.ownBlock ≠ some b) lo ks rs
namespace RowsG
variable {lo xb : Nat} {cs us fs ks : Value} {cl : List Cl} {ul : List UR} {fl : List FR} {rs : List Rec} {wr w' : World}
/-- What lies behind lo is as it was. -/
theorem same (h : RowsG lo xb cs us fs ks cl ul fl rs wr) (hb : ∀ b, lo ≤ b → b < wr.heap.size → w'.heap[b]? = wr.heap[b]?) (hs : wr.heap.size ≤ w'.heap.size) : RowsG lo xb cs us fs ks cl ul fl rs w' :=
  ⟨own_block h.c fun k hk => hb k (h.c.lt k hk).1 (h.c.lt k hk).2, own_block h.u fun k hk => hb k (h.u.lt k hk).1 (h.u.lt k hk).2, fun r hr => ⟨(h.ub r hr).1, (hb _ (h.ub r hr).1 (Array.getElem?_eq_some_iff.1 (h.ub r hr).2).1).trans (h.ub r hr).2⟩,
    own_block h.f fun k hk => hb k (h.f.lt k hk).1 (h.f.lt k hk).2, fun r hr => ⟨(h.fb r hr).1, (hb _ (h.fb r hr).1 (Array.getElem?_eq_some_iff.1 (h.fb r hr).2).1).trans (h.fb r hr).2⟩,
    h.k.carry (Nat.le_refl _) hs (fun k hk => hb k (h.k.1.lt k hk).1 (h.k.1.lt k hk).2) fun b hlt hok _ => ⟨hok, hb b hok.1 hlt⟩⟩
theorem below (h : RowsG lo xb cs us fs ks cl ul fl rs wr) (hb : Below wr.heap.size wr w') : RowsG lo xb cs us fs ks cl ul fl rs w' := h.same (fun b _ hlt => hb.block b hlt) hb.size
theorem next {T m : Nat} (h : RowsG lo xb cs us fs ks cl ul fl rs wr) (z : Lat T m wr) (hT : T < lo) : RowsG lo xb cs us fs ks cl ul fl rs z.val := h.same (fun b hlo hlt => z.tp.block b hlt (by omega)) z.size
/-- A store into the table's own box. -/
theorem setx {i : Nat} {v : Value} {c5 : Array Value} (h : RowsG lo xb cs us fs ks cl ul fl rs wr) (hx : wr.heap[xb]? = some (.cells c5 53)) : RowsG lo xb cs us fs ks cl ul fl rs (wr.setCell ⟨xb, i, none⟩ v) :=
  ⟨own_set h.c (own_ne_z h.c hx (by decide)), own_set h.u (own_ne_z h.u hx (by decide)), fun r hr => ⟨(h.ub r hr).1, set_ne (h.ub r hr).2 (blk_ne (h.ub r hr).2 hx (by decide))⟩, own_set h.f (own_ne_z h.f hx (by decide)), fun r hr => ⟨(h.fb r hr).1, set_ne (h.fb r hr).2 (blk_ne (h.fb r hr).2 hx (by decide))⟩,
    h.k.carry (Nat.le_refl _) (by simp [World.setCell]) (fun k hk => Below.heap_setCell _ _ _ _ (own_ne_z h.k.1 hx (by decide) k hk)) fun b _ hok _ => ⟨hok, Below.heap_setCell _ _ _ _ hok.2.1⟩⟩
theorem nok {ok ok' : Nat → Prop} {base : Nat} (h : RowK wr ok base ks []) (ho : w'.ownsRow base 30 6 ks 0 []) : RowK w' ok' base ks [] := ⟨ho, fun r hr => by simp at hr⟩
/-- One column more. -/
theorem pushC {cs' : Value} {c : Cl} (h : RowsG lo xb cs us fs ks cl ul fl [] wr) (ho : w'.ownsRow lo 55 3 cs' (cl.length + 1) (cl.flatMap Cl.cells ++ c.cells)) (hg : wr.grownBy w' cs.ownBlock) : RowsG lo xb cs' us fs ks (cl ++ [c]) ul fl [] w' :=
  ⟨by rw [List.length_append, List.flatMap_append, List.flatMap_cons, List.flatMap_nil, List.append_nil]; exact ho, own_beside h.u h.c (by decide) hg, fun r hr => ⟨(h.ub r hr).1, blk_beside (h.ub r hr).2 h.c (by decide) hg⟩, own_beside h.f h.c (by decide) hg, fun r hr => ⟨(h.fb r hr).1, blk_beside (h.fb r hr).2 h.c (by decide) hg⟩, nok h.k (own_beside h.k.1 h.c (by decide) hg)⟩
theorem pushF {fs' : Value} {c : FR} (h : RowsG lo xb cs us fs ks cl ul fl [] wr) (ho : w'.ownsRow lo 57 2 fs' (fl.length + 1) (fl.flatMap FR.cells ++ c.cells)) (hg : wr.grownBy w' fs.ownBlock) (hc : lo ≤ c.b ∧ wr.heap[c.b]? = some (.cells #[.int .i64 c.n] 3)) : RowsG lo xb cs us fs' ks cl ul (fl ++ [c]) [] w' :=
  ⟨own_beside h.c h.f (by decide) hg, own_beside h.u h.f (by decide) hg, fun r hr => ⟨(h.ub r hr).1, blk_beside (h.ub r hr).2 h.f (by decide) hg⟩, by rw [List.length_append, List.flatMap_append, List.flatMap_cons, List.flatMap_nil, List.append_nil]; exact ho, fun r hr => by
    rcases List.mem_append.1 hr with hr | hr
    · exact ⟨(h.fb r hr).1, blk_beside (h.fb r hr).2 h.f (by decide) hg⟩
    · simp only [List.mem_cons, List.not_mem_nil, or_false] at hr
      subst hr
      exact ⟨hc.1, blk_beside hc.2 h.f (by decide) hg⟩, nok h.k (own_beside h.k.1 h.f (by decide) hg)⟩
theorem pushU {us' : Value} {c : UR} (h : RowsG lo xb cs us fs ks cl ul fl [] wr) (ho : w'.ownsRow lo 22 1 us' (ul.length + 1) (ul.flatMap UR.cells ++ c.cells)) (hg : wr.grownBy w' us.ownBlock) (hc : lo ≤ c.b ∧ wr.heap[c.b]? = some (.cells #[.int .i64 c.n] 3)) : RowsG lo xb cs us' fs ks cl (ul ++ [c]) fl [] w' :=
  ⟨own_beside h.c h.u (by decide) hg, by rw [List.length_append, List.flatMap_append, List.flatMap_cons, List.flatMap_nil, List.append_nil]; exact ho, fun r hr => by
    rcases List.mem_append.1 hr with hr | hr
    · exact ⟨(h.ub r hr).1, blk_beside (h.ub r hr).2 h.u (by decide) hg⟩
    · simp only [List.mem_cons, List.not_mem_nil, or_false] at hr
      subst hr
      exact ⟨hc.1, blk_beside hc.2 h.u (by decide) hg⟩, own_beside h.f h.u (by decide) hg, fun r hr => ⟨(h.fb r hr).1, blk_beside (h.fb r hr).2 h.u (by decide) hg⟩, nok h.k (own_beside h.k.1 h.u (by decide) hg)⟩
/-- The first check. -/
theorem pushK {ks' : Value} {r : Rec} {o : Obj} (h : RowsG lo xb cs us fs (.slice none 0 0) cl ul fl [] wr) (hf : r.e.fine) (hk : Kids wr (fun b => lo ≤ b ∧ b ≠ xb ∧ cs.ownBlock ≠ some b ∧ us.ownBlock ≠ some b ∧ fs.ownBlock ≠ some b) r.a r.len r.cap r.e.kids) (ho : w'.ownsRow lo 30 6 ks' 1 r.cells) (hg : (wr.alloc o).grownBy w' none) (hat : ks'.ownBlock = none ∨ ks'.ownBlock = some (wr.alloc o).heap.size) : RowsG lo xb cs us fs ks' cl ul fl [r] w' := by
  have hs : wr.heap.size + 1 ≤ w'.heap.size := by have := hg.size; simpa using this
  have hb : ∀ b, b < wr.heap.size → w'.heap[b]? = wr.heap[b]? := fun b hlt => (hg.block b (by simp; omega) (by simp)).trans (Below.heap_alloc _ _ _ hlt)
  have h2 := h.same (w' := w') (fun b _ hlt => hb b hlt) (by omega)
  exact ⟨h2.c, h2.u, h2.ub, h2.f, h2.fb, RowK.push (rs := []) h.k hf (hk.carry (Nat.le_refl _) fun b _ hok => ⟨⟨hok, by simp [Value.ownBlock]⟩, rfl⟩) ho hg hat⟩
end RowsG
theorem list_mem {α : Type} {l : List α} {d : α} {i : Nat} (h : i < l.length) : l.getD i d ∈ l := by
  simp [List.getD, h]
/-- The table whose rows these are. -/
theorem tbI_of {lo xb pb : Nat} {nm : ByteArray} {cs us fs ks : Value} {cl : List Cl} {ul : List UR} {fl : List FR} {rs : List Rec} {wr : World} (h : RowsG lo xb cs us fs ks cl ul fl rs wr) (hnm : nm.size ≤ maxLen) (hpl : lo ≤ pb) (hpr : wr.heap[pb]? = some (.cells #[.int .i64 0] 3))
    (hcl : ∀ c ∈ cl, c.name.size ≤ maxLen ∧ (Lit.int .i64 c.ty).wf = true) (hfl : ∀ r ∈ fl, r.nm.size ≤ maxLen) :
    ∃ s1 s2 s3 s4 : Sl, cs = s1.v ∧ us = s2.v ∧ fs = s3.v ∧ ks = s4.v ∧ s1.len = cl.length ∧ s2.len = ul.length ∧ s3.len = fl.length ∧ s4.len = rs.length ∧ TbI wr (tbG nm s1 cl pb s2 ul s3 fl s4 (rs.map Rec.e)) lo wr.heap.size := by
  obtain ⟨s1, e1, l1, h1⟩ := own_sl (cell := fun i => (cl.getD i default).cells) h.c fun i hi j hj => flat_at Cl.cells 3 Cl.cells_len default cl i hi j hj
  obtain ⟨s2, e2, l2, h2⟩ := own_sl (cell := fun i => (ul.getD i default).cells) h.u fun i hi j hj => flat_at UR.cells 1 UR.cells_len default ul i hi j hj
  obtain ⟨s3, e3, l3, h3⟩ := own_sl (cell := fun i => (fl.getD i default).cells) h.f fun i hi j hj => flat_at FR.cells 2 FR.cells_len default fl i hi j hj
  obtain ⟨a4, c4, e4, h4⟩ := h.k.kids (ok' := fun b => lo ≤ b) (fun g hg => (h.k.1.lt g hg).1) fun b hb => hb.1
  refine ⟨s1, s2, s3, ⟨a4, rs.length, c4⟩, e1, e2, e3, e4, l1, l2, l3, rfl, hnm, h1, fun i hi => hcl _ (list_mem (by
    have : i < s1.len := hi
    omega)), sl_one hpr hpl, h2, fun i hi => ?_, h3, fun i hi => ?_, ?_⟩
  · have hi2 : i < ul.length := by
      have : i < s2.len := hi
      omega
    obtain ⟨q1, q2⟩ := h.ub _ (list_mem (d := default) hi2)
    exact sl_one q2 q1
  · have hi2 : i < fl.length := by
      have : i < s3.len := hi
      omega
    obtain ⟨q1, q2⟩ := h.fb _ (list_mem (d := default) hi2)
    exact ⟨sl_one q2 q1, hfl _ (list_mem hi2)⟩
  · exact h4.carry (Nat.le_refl _) fun b hlt hok => ⟨⟨hok, hlt⟩, rfl⟩
/-- A table, whose rows only it holds: as they were when it was made. -/
def TbO (W : World) (t : Tb) (lo hi : Nat) : Prop :=
  TbI W t lo hi ∧ ∃ (wr : World) (xb pb : Nat) (nm : ByteArray) (s1 s2 s3 s4 : Sl) (cl : List Cl) (ul : List UR) (fl : List FR) (rs : List Rec),
    t = tbG nm s1 cl pb s2 ul s3 fl s4 (rs.map Rec.e) ∧ RowsG lo xb s1.v s2.v s3.v s4.v cl ul fl rs wr ∧ lo ≤ pb ∧ wr.heap[pb]? = some (.cells #[.int .i64 0] 3) ∧ nm.size ≤ maxLen ∧ (∀ c ∈ cl, c.name.size ≤ maxLen ∧ (Lit.int .i64 c.ty).wf = true) ∧ (∀ r ∈ fl, r.nm.size ≤ maxLen) ∧
      wr.heap.size = hi ∧ hi ≤ W.heap.size ∧ ∀ b, lo ≤ b → b < hi → W.heap[b]? = wr.heap[b]?
theorem TbO.carry {w w' : World} {t : Tb} {lo hi : Nat} (h : TbO w t lo hi) (hb : ∀ b, lo ≤ b → b < hi → w'.heap[b]? = w.heap[b]?) (hs : w.heap.size ≤ w'.heap.size) : TbO w' t lo hi := by
  obtain ⟨h1, wr, xb, pb, nm, s1, s2, s3, s4, cl, ul, fl, rs, e, hr, p1, p2, p3, p4, p5, e6, p7, p8⟩ := h
  exact ⟨h1.carry hb hs, wr, xb, pb, nm, s1, s2, s3, s4, cl, ul, fl, rs, e, hr, p1, p2, p3, p4, p5, e6, by omega, fun b h1 h2 => (hb b h1 h2).trans (p8 b h1 h2)⟩
theorem TbO.at_ {w : World} {t : Tb} {lo hi : Nat} (h : TbO w t lo hi) : TbAt w t := h.1.at_
theorem tbO_of {lo xb pb : Nat} {nm : ByteArray} {cs us fs ks : Value} {cl : List Cl} {ul : List UR} {fl : List FR} {rs : List Rec} {wr : World} (h : RowsG lo xb cs us fs ks cl ul fl rs wr) (hnm : nm.size ≤ maxLen) (hpl : lo ≤ pb) (hpr : wr.heap[pb]? = some (.cells #[.int .i64 0] 3))
    (hcl : ∀ c ∈ cl, c.name.size ≤ maxLen ∧ (Lit.int .i64 c.ty).wf = true) (hfl : ∀ r ∈ fl, r.nm.size ≤ maxLen) :
    ∃ s1 s2 s3 s4 : Sl, cs = s1.v ∧ us = s2.v ∧ fs = s3.v ∧ ks = s4.v ∧ s1.len = cl.length ∧ s2.len = ul.length ∧ s3.len = fl.length ∧ s4.len = rs.length ∧ TbO wr (tbG nm s1 cl pb s2 ul s3 fl s4 (rs.map Rec.e)) lo wr.heap.size := by
  obtain ⟨s1, s2, s3, s4, e1, e2, e3, e4, l1, l2, l3, l4, hI⟩ := tbI_of h hnm hpl hpr hcl hfl
  subst e1 e2 e3 e4
  exact ⟨s1, s2, s3, s4, rfl, rfl, rfl, rfl, l1, l2, l3, l4, hI, wr, xb, pb, nm, s1, s2, s3, s4, cl, ul, fl, rs, rfl, h, hpl, hpr, hnm, hcl, hfl, rfl, Nat.le_refl _, fun b _ _ => rfl⟩
end Go.Proofs.YtpddkljedhghkaaDoor
