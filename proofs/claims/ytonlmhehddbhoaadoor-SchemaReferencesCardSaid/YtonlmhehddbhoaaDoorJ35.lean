/-
  The loop that gives a membership more operands: what is so at its head, and one round.
-/
import Derived.Test.YtonlmhehddbhoaaDoorJ33
set_option linter.unusedVariables false
namespace Go.Proofs.YtonlmhehddbhoaaDoor
open Go Go.RowKit Go.Deep
def outC (v : Value) : Obj := .cells #[.int .i64 28, .int .i64 0, .int .i64 0, .string ⟨#[]⟩, .int .i64 0, v] 30
def LoopIs (T Mx dd : Nat) (ty : List Int) (x : Int) (a : Option Addr) (len cap : Nat) (d : Int) (B n bo : Nat) (w : World) (c : Nat) (wr : World) : Prop :=
  ∃ (rs : List Rec) (v : Value) (mm : Nat), c ≤ 2 ∧ rs.length + c ≤ 4 ∧ 2 ≤ rs.length ∧ mm + (if c = 0 then 0 else if c = 1 then B else 2 * B) ≤ Mx ∧ Tp T w wr ∧ TapeAt T mm wr ∧ Fr T a len cap d n wr ∧ wr.heap[bo]? = some (outC v) ∧
    RowK wr (fun b => n + 4 ≤ b ∧ b ≠ bo) (n + 4) v rs ∧ v.ownBlock ≠ some bo ∧ ∀ q ∈ rs, Made ty dd x q.e
theorem Fr.of_blocks {T : Nat} {a : Option Addr} {len cap : Nat} {d : Int} {n : Nat} {W W' : World} (h : Fr T a len cap d n W) (hb : ∀ k, n ≤ k → k ≤ n + 3 → W'.heap[k]? = W.heap[k]?) : Fr T a len cap d n W' := by
  obtain ⟨h0, h1, h2, h3⟩ := h
  exact ⟨(hb _ (by omega) (by omega)).trans h0, (hb _ (by omega) (by omega)).trans h1, (hb _ (by omega) (by omega)).trans h2, (hb _ (by omega) (by omega)).trans h3⟩
theorem loop_start {T Mx dd m : Nat} {ty : List Int} {x : Int} {a : Option Addr} {len cap : Nat} {d : Int} {B n : Nat} {w Y : World} {r cc1 : Nat} {a1 : Option Addr} {e1 e2 : Ex} (hT : T < n) (hn : n ≤ w.heap.size) (hw : n + 4 ≤ Y.heap.size)
    (hrow : ∃ rs : List Rec, rs.map Rec.e = [e1, e2] ∧ RowK Y (fun b => n + 4 ≤ b) (n + 4) (.slice a1 2 cc1) rs) (h1 : Made ty dd x e1) (h2 : Made ty dd x e2) (z : Lat T m (Y.alloc (outC (.slice a1 2 cc1)))) (hA : Tp T w z.val) (hF : Fr T a len cap d n z.val) (hr : r ≤ 2) (hm : m + 2 * B ≤ Mx) :
    LoopIs T Mx dd ty x a len cap d B n Y.heap.size w r z.val := by
  obtain ⟨rs, hrs, hrow⟩ := hrow
  have hrlen : rs.length = 2 := by have := congrArg List.length hrs; simpa using this
  have hown := hrow.1.lt
  have hyz : Y.heap.size + 1 ≤ z.val.heap.size := by have := z.size; simpa using this
  have hkeep : ∀ b, b < Y.heap.size → b ≠ T → z.val.heap[b]? = Y.heap[b]? := fun b hb hbT => (z.tp.block b (by simp; omega) hbT).trans (Below.heap_alloc _ _ _ hb)
  refine ⟨rs, .slice a1 2 cc1, m, hr, by omega, by omega, ?_, hA, z.at_, hF, (z.tp.block _ (by simp) (by omega)).trans (heap_alloc_new Y _), ?_, fun e => by have := hown _ e; omega, fun q hq => ?_⟩
  · split <;> (try split) <;> omega
  · exact hrow.carry (Nat.le_refl _) (by omega) (fun k hk => by have := hown k hk; exact hkeep k (by omega) (by omega)) (fun b hb hb1 _ => ⟨⟨hb1, by omega⟩, hkeep b hb (by omega)⟩)
  · have : q.e ∈ rs.map Rec.e := List.mem_map_of_mem hq
    rw [hrs] at this
    exact all2 h1 h2 _ this
/-- Behind the append, what the loop reads is as it was. -/
theorem loop_mid {T m : Nat} {ok : Nat → Prop} {n : Nat} {wr w3 : World} {v : Value} {rs : List Rec} {x0 : Ext wr} {o : Obj} (hrow : RowK wr ok (n + 4) v rs) (hT : T < n) (z3 : Lat T m x0.val) (hg : (z3.val.alloc o).grownBy w3 v.ownBlock) :
    ∀ b, n ≤ b → b < wr.heap.size → v.ownBlock ≠ some b → w3.heap[b]? = wr.heap[b]? := fun b h1 h2 h3 => by
  have s0 := x0.size
  have s1 := z3.size
  have hup : Up n wr z3.val := Up.lat z3 ((Up.refl _ _).ext x0) hT
  exact (hg.block b (by simp; omega) (fun e => h3 e.symm)).trans ((Below.heap_alloc _ _ _ (by omega)).trans (hup.block b h1 h2))
theorem loop_step {T Mx dd mm : Nat} {ty : List Int} {x : Int} {a : Option Addr} {len cap : Nat} {d : Int} {B n bo : Nat} {w wr w3 : World} {c : Nat} {rs : List Rec} {v v3 : Value} {x0 : Ext wr} {r : Rec} (hT : T < n) (hn : w.heap.size ≤ n) (hTw : T < w.heap.size) (hbo : n + 4 ≤ bo)
    (hc : c + 1 ≤ 2) (hl : rs.length + (c + 1) ≤ 4) (hl2 : 2 ≤ rs.length) (hm : mm + (if c + 1 = 0 then 0 else if c + 1 = 1 then B else 2 * B) ≤ Mx) (hA : Tp T w wr) (hF : Fr T a len cap d n wr) (hb : wr.heap[bo]? = some (outC v))
    (hrow : RowK wr (fun b => n + 4 ≤ b ∧ b ≠ bo) (n + 4) v rs) (hv : v.ownBlock ≠ some bo) (hq : ∀ q ∈ rs, Made ty dd x q.e) (z3 : Lat T (mm + B) x0.val) (hfr : r.e.fine) (hkr : Kids z3.val (fun b => x0.val.heap.size ≤ b) r.a r.len r.cap r.e.kids) (hmr : Made ty dd x r.e)
    (hown : w3.ownsRow (n + 4) 30 6 v3 (rs.length + 1) (flatR rs ++ r.cells)) (hg : (z3.val.alloc (.cells r.cells.toArray 30)).grownBy w3 v.ownBlock) (hat : v3.ownBlock = v.ownBlock ∨ v3.ownBlock = some (z3.val.alloc (.cells r.cells.toArray 30)).heap.size) :
    LoopIs T Mx dd ty x a len cap d B n bo w c (w3.setCell ⟨bo, 5, none⟩ v3) := by
  have s0 := x0.size
  have s1 := z3.size
  have hmid := loop_mid hrow hT z3 hg
  have hrl := hrow.1.lt
  have hbl := (Array.getElem?_eq_some_iff.1 hb).1
  have h4 : n + 3 < wr.heap.size := hF.facts.2.2.2.1
  have hup : Up n wr z3.val := Up.lat z3 ((Up.refl _ _).ext x0) hT
  have hsz : (z3.val.alloc (.cells r.cells.toArray 30)).heap.size = z3.val.heap.size + 1 := by simp
  have hs3 := hg.size
  have hv3 : v3.ownBlock ≠ some bo := by
    rcases hat with e | e <;> rw [e]
    · exact hv
    · intro e; injection e; omega
  have hrow1 : RowK z3.val (fun b => n + 4 ≤ b ∧ b ≠ bo) (n + 4) v rs := hrow.carry (Nat.le_refl _) hup.size (fun k hk => hup.block k (by have := (hrl k hk).1; omega) (hrl k hk).2) (fun b hlt h1 _ => ⟨h1, hup.block b (by omega) hlt⟩)
  have hrow3 : RowK w3 (fun b => n + 4 ≤ b ∧ b ≠ bo) (n + 4) v3 (rs ++ [r]) := hrow1.push hfr (hkr.carry (Nat.le_refl _) fun b hlt hge => ⟨⟨⟨by omega, by omega⟩, fun e => by have := (hrl b e).2; omega⟩, rfl⟩) hown hg hat
  have hl3 := hrow3.1.lt
  refine ⟨rs ++ [r], v3, mm + B, by omega, by simp; omega, by simp; omega, ?_, ?_, ?_, ?_, ?_, ?_, hv3, ?_⟩
  · rcases (by omega : c = 0 ∨ c = 1) with rfl | rfl <;> simp at hm ⊢ <;> omega
  · refine Tp.setCell (Tp.grown ((z3.on (hA.ext x0)).alloc _) hg (fun k hk => by have := (hrl k hk).1; omega)) (.inl (by show w.heap.size ≤ bo; omega)) _
  · refine z3.at_.upto (Below.setCell (Below.grown ((Below.refl _ _).alloc (by omega) _) hg (by omega) (fun k hk => by have := (hrl k hk).1; omega)) (by show T + 1 ≤ bo; omega) _)
  · refine hF.of_blocks fun k h1 h2 => (Below.heap_setCell _ _ _ _ (by show k ≠ bo; omega)).trans (hmid k h1 (by omega) (fun e => by have := (hrl k e).1; omega))
  · have := (hmid bo (by omega) hbl hv).trans hb
    simp only [World.setCell, Array.getElem?_modify, this, outC]
    simp
  · exact hrow3.carry (Nat.le_refl _) (by simp [World.setCell]) (fun k hk => Below.heap_setCell _ _ _ _ (fun e => hv3 (by rw [hk]; exact congrArg some e))) (fun b _ h1 _ => ⟨h1, Below.heap_setCell _ _ _ _ h1.2⟩)
  · intro q hq'
    rcases List.mem_append.1 hq' with h | h
    · exact hq q h
    · simp only [List.mem_cons, List.not_mem_nil, or_false] at h; subst h; exact hmr
theorem own_slice {w : World} {base size n : Nat} {e : TypeId} {v : Value} {xs : List Value} (h : w.ownsRow base e size v n xs) : ∃ a n c, v = .slice a n c := by
  rcases h.2 with ⟨rfl, _⟩ | ⟨g, cap, cur, rfl, _⟩
  · exact ⟨_, _, _, rfl⟩
  · exact ⟨_, _, _, rfl⟩
/-- A later world in which the boxes and block bo are as they were. -/
structure Keep (n bo : Nat) (w : World) where
  val : World
  same : ∀ b, (b = n ∨ b = n + 1 ∨ b = n + 1 + 1 ∨ b = bo) → val.heap[b]? = w.heap[b]?
instance (n bo : Nat) (w : World) : Nonempty (Keep n bo w) := ⟨⟨w, fun _ _ => rfl⟩⟩
@[go_sem] theorem Keep.cell0 {n bo : Nat} {w : World} (x : Keep n bo w) (o : Nat) : x.val.cell? ⟨n, o, none⟩ = w.cell? ⟨n, o, none⟩ := World.cell?_of_block (w := w) (x.same n (.inl rfl))
@[go_sem] theorem Keep.cell1 {n bo : Nat} {w : World} (x : Keep n bo w) (o : Nat) : x.val.cell? ⟨n + 1, o, none⟩ = w.cell? ⟨n + 1, o, none⟩ := World.cell?_of_block (w := w) (x.same (n + 1) (.inr (.inl rfl)))
@[go_sem] theorem Keep.cell2 {n bo : Nat} {w : World} (x : Keep n bo w) (o : Nat) : x.val.cell? ⟨n + 1 + 1, o, none⟩ = w.cell? ⟨n + 1 + 1, o, none⟩ := World.cell?_of_block (w := w) (x.same (n + 1 + 1) (.inr (.inr (.inl rfl))))
@[go_sem] theorem Keep.cell3 {n bo : Nat} {w : World} (x : Keep n bo w) (o : Nat) : x.val.cell? ⟨bo, o, none⟩ = w.cell? ⟨bo, o, none⟩ := World.cell?_of_block (w := w) (x.same bo (.inr (.inr (.inr rfl))))
end Go.Proofs.YtonlmhehddbhoaaDoor
