/-
  A table that is being made, and tables that are made: the blocks of each lie between two heights. Keys: which lists of columns are keys of a table, and the program's isKey. Which strings are names: the program's Name and the reference's give one and the same Bool for every string.
-/
import Derived.Test.YtonlmhehddbhoaaDoorJ05
import Derived.Test.YtonlmhehddbhoaaDoorJ02
import Derived.Laws.OwnMore
import Derived.Test.YtonlmhehddbhoaaDoorJ03
import Derived.Test.YtonlmhehddbhoaaDoorChecked
import Derived.Test.YtonlmhehddbhoaaDoorJ01
import Derived.Deep.Slices
import Derived.Deep.Strs
import Derived.ProofKit
import Derived.Lib.Strings
import Derived.Lib.Hide
import Derived.LoopTactic
import Derived.BigQuiet
import Derived.Deep.QuietTactic
set_option linter.unusedVariables false
namespace Go.Proofs.YtonlmhehddbhoaaDoor
open Go Go.RowKit Go.Deep
theorem heap_alloc_at {b : Nat} (w : World) (o : Obj) (h : b = w.heap.size) : (w.alloc o).heap[b]? = some o := by
  subst h
  exact heap_alloc_new w o
theorem free_z {w : World} {b : Nat} {cs : Array Value} {t : TypeId} (h : w.heap[b]? = some (.cells cs t (0, 0))) (i : Nat) : w.frozen? ⟨b, i, none⟩ = false := by simp [World.frozen?, h]
/-- The cells of a block that is known whole. -/
theorem one_z {W : World} {b : Nat} {a0 : Value} {t : TypeId} (h : W.heap[b]? = some (.cells #[a0] t)) : b < W.heap.size ∧ W.frozen? ⟨b, 0, none⟩ = false ∧ W.cell? ⟨b, 0, none⟩ = some a0 := by
  refine ⟨(Array.getElem?_eq_some_iff.1 h).1, free_z h _, ?_⟩
  rw [cell_of_row _ _ _ _ _ (0, 0) h]
  rfl
theorem three_z {W : World} {b : Nat} {a0 a1 a2 : Value} {t : TypeId} (h : W.heap[b]? = some (.cells #[a0, a1, a2] t)) :
    b < W.heap.size ∧ W.frozen? ⟨b, 0, none⟩ = false ∧ W.frozen? ⟨b, 1, none⟩ = false ∧ W.frozen? ⟨b, 2, none⟩ = false ∧ W.cell? ⟨b, 0, none⟩ = some a0 ∧ W.cell? ⟨b, 1, none⟩ = some a1 ∧ W.cell? ⟨b, 2, none⟩ = some a2 := by
  refine ⟨(Array.getElem?_eq_some_iff.1 h).1, free_z h _, free_z h _, free_z h _, ?_, ?_, ?_⟩
  all_goals
    rw [cell_of_row _ _ _ _ _ (0, 0) h]
    rfl
theorem six_z {W : World} {b : Nat} {a0 a1 a2 a3 a4 a5 : Value} {t : TypeId} (h : W.heap[b]? = some (.cells #[a0, a1, a2, a3, a4, a5] t)) :
    b < W.heap.size ∧ W.frozen? ⟨b, 0, none⟩ = false ∧ W.frozen? ⟨b, 1, none⟩ = false ∧ W.frozen? ⟨b, 2, none⟩ = false ∧ W.frozen? ⟨b, 3, none⟩ = false ∧ W.frozen? ⟨b, 4, none⟩ = false ∧ W.frozen? ⟨b, 5, none⟩ = false ∧
    W.cell? ⟨b, 0, none⟩ = some a0 ∧ W.cell? ⟨b, 1, none⟩ = some a1 ∧ W.cell? ⟨b, 2, none⟩ = some a2 ∧ W.cell? ⟨b, 3, none⟩ = some a3 ∧ W.cell? ⟨b, 4, none⟩ = some a4 ∧ W.cell? ⟨b, 5, none⟩ = some a5 := by
  refine ⟨(Array.getElem?_eq_some_iff.1 h).1, free_z h _, free_z h _, free_z h _, free_z h _, free_z h _, free_z h _, ?_, ?_, ?_, ?_, ?_, ?_⟩
  all_goals
    rw [cell_of_row _ _ _ _ _ (0, 0) h]
    rfl
/-- A row's block is none of another type. -/
theorem own_ne_z {w : World} {base size n : Nat} {e : TypeId} {v : Value} {xs : List Value} (h : w.ownsRow base e size v n xs) {b : Nat} {cs : Array Value} {t : TypeId} (hb : w.heap[b]? = some (.cells cs t)) (ht : t ≠ e) : ∀ k, v.ownBlock = some k → k ≠ b := by
  rintro k hk rfl
  rcases h.2 with ⟨rfl, _⟩ | ⟨g, cap, cur, rfl, _, hh, _⟩
  · simp [Value.ownBlock] at hk
  · simp [Value.ownBlock] at hk
    subst hk
    rw [hb] at hh
    simp only [Option.some.injEq, Obj.cells.injEq] at hh
    exact ht hh.2.1
theorem own_slice_z {w : World} {base size n : Nat} {e : TypeId} {v : Value} {xs : List Value} (h : w.ownsRow base e size v (n + 1) xs) : ∃ g c, v = .slice (some ⟨g, 0, none⟩) (n + 1) c := by
  rcases h.2 with ⟨_, h0⟩ | ⟨g, cap, cur, rfl, _⟩
  · cases h0
  · exact ⟨_, _, rfl⟩
theorem own_block {w w' : World} {base size n : Nat} {e : TypeId} {v : Value} {xs : List Value} (h : w.ownsRow base e size v n xs) (hb : ∀ k, v.ownBlock = some k → w'.heap[k]? = w.heap[k]?) : w'.ownsRow base e size v n xs := by
  refine ⟨h.1, h.2.imp id ?_⟩
  rintro ⟨g, cap, cur, hv, hg, hh, rest⟩
  exact ⟨g, cap, cur, hv, hg, (hb g (by rw [hv]; rfl)).trans hh, rest⟩
theorem own_next {T q : Nat} {w : World} {base size n : Nat} {e : TypeId} {v : Value} {xs : List Value} (h : w.ownsRow base e size v n xs) (z : Lat T q w) (hT : T < base) : z.val.ownsRow base e size v n xs := own_tp h z.tp hT
theorem own_set {w : World} {base size n xb o : Nat} {e : TypeId} {v u : Value} {xs : List Value} (h : w.ownsRow base e size v n xs) (hx : ∀ k, v.ownBlock = some k → k ≠ xb) : (w.setCell ⟨xb, o, none⟩ u).ownsRow base e size v n xs :=
  own_block h fun k hk => Below.heap_setCell _ _ _ _ (hx k hk)
/-- A world in which block b is as it was. -/
structure Kept (b : Nat) (w : World) where
  val : World
  same : val.heap[b]? = w.heap[b]?
instance (b : Nat) (w : World) : Nonempty (Kept b w) := ⟨⟨w, rfl⟩⟩
@[go_sem] theorem Kept.cell {b : Nat} {w : World} (x : Kept b w) (o : Nat) : x.val.cell? ⟨b, o, none⟩ = w.cell? ⟨b, o, none⟩ := World.cell?_of_block (w := w) x.same
theorem kept_start {b : Nat} {w : World} (hb : b < w.heap.size) (x : Ext w) : ∃ y : Kept b w, x.val = y.val := ⟨⟨x.val, x.below.block b hb⟩, rfl⟩
theorem blk_ne {w : World} {a b : Nat} {c1 c2 : Array Value} {t1 t2 : TypeId} (h1 : w.heap[a]? = some (.cells c1 t1)) (h2 : w.heap[b]? = some (.cells c2 t2)) (h : t1 ≠ t2) : a ≠ b := by
  intro e
  rw [e, h2] at h1
  simp only [Option.some.injEq, Obj.cells.injEq] at h1
  exact h h1.2.1.symm
theorem set_ne {w : World} {b xb i : Nat} {u : Value} {o : Obj} (h : w.heap[b]? = some o) (hb : b ≠ xb) : (w.setCell ⟨xb, i, none⟩ u).heap[b]? = some o := (Below.heap_setCell _ _ _ _ hb).trans h
/-- The slice's blocks lie between lo and hi. -/
def SlI (w : World) (k : Nat) (s : Sl) (c : Nat → List Value) (lo hi : Nat) : Prop := SlAt w k s c ∧ ∀ b off, s.a = some ⟨b, off, none⟩ → lo ≤ b ∧ b < hi
theorem SlI.carry {w w' : World} {k : Nat} {s : Sl} {c : Nat → List Value} {lo hi : Nat} (h : SlI w k s c lo hi) (hb : ∀ b, lo ≤ b → b < hi → w'.heap[b]? = w.heap[b]?) (hs : w.heap.size ≤ w'.heap.size) : SlI w' k s c lo hi := by
  refine ⟨⟨h.1.1, h.1.2.1, h.1.2.2.1, fun i hi => ?_⟩, h.2⟩
  obtain ⟨b, off, ha, hlt, hc⟩ := h.1.2.2.2 i hi
  obtain ⟨h1, h2⟩ := h.2 b off ha
  exact ⟨b, off, ha, Nat.lt_of_lt_of_le hlt hs, fun j hj => by rw [World.cell?_of_block (w := w) (hb b h1 h2)]; exact hc j hj⟩
theorem sli_none {w : World} {k lo hi : Nat} {f : Nat → List Value} : SlI w k Sl.z f lo hi := ⟨⟨Nat.le_refl _, Nat.zero_le _, fun _ => ⟨rfl, rfl⟩, fun i hi => absurd hi (Nat.not_lt_zero _)⟩, fun b off h => by cases h⟩
theorem own_sl {w : World} {base k n : Nat} {e : TypeId} {v : Value} {xs : List Value} {cell : Nat → List Value} (h : w.ownsRow base e k v n xs) (hc : ∀ i, i < n → ∀ j, j < k → xs[i * k + j]? = (cell i)[j]?) : ∃ s : Sl, v = s.v ∧ s.len = n ∧ SlI w k s cell base w.heap.size := by
  rcases h.2 with ⟨rfl, h0⟩ | ⟨g, cap, cur, rfl, hb, hh, hn, hm, _, _⟩
  · subst h0
    exact ⟨Sl.z, rfl, rfl, sli_none⟩
  · have hlt := (Array.getElem?_eq_some_iff.1 hh).1
    refine ⟨⟨some ⟨g, 0, none⟩, n, cap⟩, rfl, rfl, ⟨hn, hm, fun e => by simp at e, fun i hi => ⟨g, 0, rfl, hlt, fun j hj => ?_⟩⟩, fun b off hb2 => ?_⟩
    · rw [← hc i hi j hj, Nat.zero_add]
      have hl : i * k + j < n * k := by
        have h3 : (i + 1) * k ≤ n * k := Nat.mul_le_mul_right k hi
        rw [Nat.succ_mul] at h3
        omega
      exact h.cellAt _ hl
    · simp only [Option.some.injEq, Addr.mk.injEq, and_true] at hb2
      obtain ⟨rfl, rfl⟩ := hb2
      exact ⟨hb, hlt⟩
theorem sl_one {w : World} {b : Nat} {v : Value} {t : TypeId} {lo : Nat} (h : w.heap[b]? = some (.cells #[v] t)) (hlo : lo ≤ b) : SlI w 1 ⟨some ⟨b, 0, none⟩, 1, 1⟩ (fun _ => [v]) lo w.heap.size := by
  have hlt := (Array.getElem?_eq_some_iff.1 h).1
  refine ⟨⟨Nat.le_refl _, by unfold maxLen; show 1 ≤ _; omega, fun e => by simp at e, fun i hi => ⟨b, 0, rfl, hlt, fun j hj => ?_⟩⟩, fun b' off hb2 => ?_⟩
  · obtain rfl : j = 0 := by omega
    obtain rfl : i = 0 := by
      have : i < 1 := hi
      omega
    rw [cell_of_row _ _ _ _ _ (0, 0) h]
    rfl
  · simp only [Option.some.injEq, Addr.mk.injEq, and_true] at hb2
    obtain ⟨rfl, rfl⟩ := hb2
    exact ⟨hlo, hlt⟩
structure TbI (w : World) (t : Tb) (lo hi : Nat) : Prop where
  name : t.name.size ≤ maxLen
  cols : SlI w 3 t.cs (fun i => (t.col i).cells) lo hi
  colf : ∀ i, i < t.cs.len → (t.col i).name.size ≤ maxLen ∧ (Lit.int .i64 (t.col i).ty).wf = true
  prim : SlI w 1 t.ps (intC t.prim) lo hi
  uqs : SlI w 1 t.us (fun i => [(t.uq i).v]) lo hi
  uqn : ∀ i, i < t.us.len → SlI w 1 (t.uq i) (intC (t.uqn i)) lo hi
  fks : SlI w 2 t.fs (fun i => [(t.fk i).v, .string (t.fkt i)]) lo hi
  fkn : ∀ i, i < t.fs.len → SlI w 1 (t.fk i) (intC (t.fkn i)) lo hi ∧ (t.fkt i).size ≤ maxLen
  kids : Kids w (fun b => lo ≤ b ∧ b < hi) t.ks.a t.ks.len t.ks.cap t.checks
theorem TbI.carry {w w' : World} {t : Tb} {lo hi : Nat} (h : TbI w t lo hi) (hb : ∀ b, lo ≤ b → b < hi → w'.heap[b]? = w.heap[b]?) (hs : w.heap.size ≤ w'.heap.size) : TbI w' t lo hi :=
  ⟨h.name, h.cols.carry hb hs, h.colf, h.prim.carry hb hs, h.uqs.carry hb hs, fun i hi => (h.uqn i hi).carry hb hs, h.fks.carry hb hs, fun i hi => ⟨(h.fkn i hi).1.carry hb hs, (h.fkn i hi).2⟩, h.kids.carry hs fun b _ ⟨h1, h2⟩ => ⟨⟨h1, h2⟩, hb b h1 h2⟩⟩
theorem TbI.at_ {w : World} {t : Tb} {lo hi : Nat} (h : TbI w t lo hi) : TbAt w t :=
  ⟨h.name, h.cols.1, h.colf, h.prim.1, h.uqs.1, fun i hi => (h.uqn i hi).1, h.fks.1, fun i hi => ⟨(h.fkn i hi).1.1, (h.fkn i hi).2⟩, h.kids.any⟩
/-- What lies in memory of a table that is being made: its box xb, its key's number in block pb, and the tape. All of it lies behind the world W. -/
structure Fg (T m : Nat) (W : World) (xb pb : Nat) (nm : ByteArray) (cs us fs ks : Value) (wr : World) : Prop where
  tp : Tp T W wr
  tape : TapeAt T m wr
  tlt : T < W.heap.size
  xlo : W.heap.size ≤ xb
  x : wr.heap[xb]? = some (.cells #[.string nm, cs, .slice (some ⟨pb, 0, none⟩) 1 1, us, fs, ks] 53)
  plo : W.heap.size ≤ pb
  pr : wr.heap[pb]? = some (.cells #[.int .i64 0] 3)
namespace Fg
variable {T m m' xb pb : Nat} {W wr : World} {nm : ByteArray} {cs us fs ks : Value}
theorem below {w' : World} (h : Fg T m W xb pb nm cs us fs ks wr) (hb : Below wr.heap.size wr w') : Fg T m W xb pb nm cs us fs ks w' :=
  ⟨h.tp.trans (Tp.ofBelow hb), h.tape.later hb, h.tlt, h.xlo, (hb.block _ (Array.getElem?_eq_some_iff.1 h.x).1).trans h.x, h.plo, (hb.block _ (Array.getElem?_eq_some_iff.1 h.pr).1).trans h.pr⟩
theorem next (h : Fg T m W xb pb nm cs us fs ks wr) (z : Lat T m' wr) : Fg T m' W xb pb nm cs us fs ks z.val := by
  have hT := h.tlt
  have h1 := h.xlo
  have h2 := h.plo
  exact ⟨h.tp.trans z.tp, z.at_, h.tlt, h.xlo, (z.tp.block _ (Array.getElem?_eq_some_iff.1 h.x).1 (by omega)).trans h.x, h.plo, (z.tp.block _ (Array.getElem?_eq_some_iff.1 h.pr).1 (by omega)).trans h.pr⟩
theorem more (h : Fg T m W xb pb nm cs us fs ks wr) (hm : m ≤ m') : Fg T m' W xb pb nm cs us fs ks wr := ⟨h.tp, h.tape.mono hm, h.tlt, h.xlo, h.x, h.plo, h.pr⟩
theorem grown {w' : World} {row : Option Nat} (h : Fg T m W xb pb nm cs us fs ks wr) (hg : wr.grownBy w' row) (hr : ∀ k, row = some k → W.heap.size ≤ k ∧ k ≠ xb ∧ k ≠ pb) : Fg T m W xb pb nm cs us fs ks w' := by
  have hT := h.tlt
  have hb : Below (T + 1) wr w' := Below.grown (Below.refl _ _) hg h.tape.lt fun k hk => by
    have := (hr k hk).1
    omega
  exact ⟨h.tp.grown hg fun k hk => (hr k hk).1, h.tape.upto hb, h.tlt, h.xlo, (hg.block _ (Array.getElem?_eq_some_iff.1 h.x).1 fun e => (hr _ e.symm).2.1 rfl).trans h.x, h.plo, (hg.block _ (Array.getElem?_eq_some_iff.1 h.pr).1 fun e => (hr _ e.symm).2.2 rfl).trans h.pr⟩
theorem ne (h : Fg T m W xb pb nm cs us fs ks wr) : pb ≠ xb := blk_ne h.pr h.x (by decide)
theorem setx (h : Fg T m W xb pb nm cs us fs ks wr) (i : Nat) (v : Value) {cs' us' fs' ks' : Value} (hx : (wr.setCell ⟨xb, i, none⟩ v).heap[xb]? = some (.cells #[.string nm, cs', .slice (some ⟨pb, 0, none⟩) 1 1, us', fs', ks'] 53)) : Fg T m W xb pb nm cs' us' fs' ks' (wr.setCell ⟨xb, i, none⟩ v) := by
  have hT := h.tlt
  have h1 := h.xlo
  exact ⟨h.tp.setCell (.inl (by show W.heap.size ≤ xb; omega)) v, h.tape.upto ((Below.refl _ _).setCell (by show T + 1 ≤ xb; omega) v), h.tlt, h.xlo, hx, h.plo, set_ne h.pr h.ne⟩
theorem set1 (h : Fg T m W xb pb nm cs us fs ks wr) (v : Value) : Fg T m W xb pb nm v us fs ks (wr.setCell ⟨xb, 1, none⟩ v) := h.setx 1 v (by
  simp only [World.setCell, Array.getElem?_modify, h.x]
  simp)
theorem set3 (h : Fg T m W xb pb nm cs us fs ks wr) (v : Value) : Fg T m W xb pb nm cs v fs ks (wr.setCell ⟨xb, 3, none⟩ v) := h.setx 3 v (by
  simp only [World.setCell, Array.getElem?_modify, h.x]
  simp)
theorem set4 (h : Fg T m W xb pb nm cs us fs ks wr) (v : Value) : Fg T m W xb pb nm cs us v ks (wr.setCell ⟨xb, 4, none⟩ v) := h.setx 4 v (by
  simp only [World.setCell, Array.getElem?_modify, h.x]
  simp)
theorem set5 (h : Fg T m W xb pb nm cs us fs ks wr) (v : Value) : Fg T m W xb pb nm cs us fs v (wr.setCell ⟨xb, 5, none⟩ v) := h.setx 5 v (by
  simp only [World.setCell, Array.getElem?_modify, h.x]
  simp)
end Fg
theorem infoCl : (Tryd.prog.info? 55).map (fun i => (i.zero, i.size, i.bytes)) = some (some (.agg #[.string ⟨#[]⟩, .int .i64 0, .bool false]), 3, 32) := by kernel_rfl
theorem infoIs : (Tryd.prog.info? 22).map (fun i => (i.zero, i.size, i.bytes)) = some (some (.slice none 0 0), 1, 24) := by kernel_rfl
theorem infoFk : (Tryd.prog.info? 57).map (fun i => (i.zero, i.size, i.bytes)) = some (some (.agg #[.slice none 0 0, .string ⟨#[]⟩]), 2, 40) := by kernel_rfl
theorem infoTb : (Tryd.prog.info? 53).map (fun i => (i.zero, i.size, i.bytes)) = some (some (.agg #[.string ⟨#[]⟩, .slice none 0 0, .slice none 0 0, .slice none 0 0, .slice none 0 0, .slice none 0 0]), 6, 136) := by kernel_rfl
end Go.Proofs.YtonlmhehddbhoaaDoor
set_option linter.unusedVariables false
namespace Go.Proofs.YtonlmhehddbhoaaDoor
open Go Go.RowKit Go.Deep
theorem SlAt.take {w : World} {k : Nat} {s : Sl} {c : Nat → List Value} (h : SlAt w k s c) {i : Nat} (hi : i ≤ s.len) : SlAt w k ⟨s.a, i, s.cap⟩ c :=
  ⟨Nat.le_trans hi h.1, h.2.1, fun e => ⟨by have := (h.2.2.1 e).1; show i = 0; omega, (h.2.2.1 e).2⟩, fun j hj => h.2.2.2 j (Nat.lt_of_lt_of_le hj hi)⟩
def sameP (f : Nat → Int) (v : Int) (j : Nat) : Bool := v == f j
set_option maxHeartbeats 4000000 in
set_option maxRecDepth 20000 in
theorem indexI_calls (s : Sl) (f : Nat → Int) (v : Int) (w : World) (hs : SlAt w 1 s (intC f)) :
    Calls Tryd.prog 132 #[.slice s.a s.len s.cap, .int .i64 v] w fun r w' => r = .returned (.int .i64 (idx (sameP f v) 0 s.len)) ∧ Cls w w' := by
  have hle := hs.1
  have hmax := hs.2.1
  unfold maxLen at hmax
  have H := Lib.hid hs.2.2.2
  clear hs
  obtain ⟨sa, sn, sc⟩ := s
  simp only at hle hmax H
  go_enter Tryd.func132, Tryd.ntmps132
  go_wp2_with fail
  go_loopw [8] (fun i wr => ∃ j : Nat, j ≤ sn ∧ i = .int .i64 j ∧ idx (sameP f v) 0 sn = idx (sameP f v) j (sn - j) ∧ Cls w wr) (fun i _ => sn - (intOf i).toNat)
  case atStart => exact ⟨0, Nat.zero_le _, rfl, rfl, Cls.of (Below.refl _ _)⟩
  case round =>
    obtain ⟨j, hj, rfl, he, x, rfl⟩ := hrel
    have HE := Lib.hid he
    clear he
    have xs := x.size
    by_cases hltj : j < sn
    · obtain ⟨b, off, ha, hb2, hc⟩ := H.out j hltj
      subst ha
      have q0 := hc 0 (by omega)
      simp only [intC, List.getElem?_cons_zero, Nat.add_zero, Nat.mul_one] at q0
      have hS : Hid (sn - j = (sn - (j + 1)) + 1) := Lib.hid (by omega)
      have hP : Hid (sameP f v j = (v == f j)) := Lib.hid rfl
      clear hc
      generalize f j = u at q0 hP
      cases hbb : (v == u)
      all_goals
        have HB := Lib.hid hbb
        go_wp2_with fail
      · go_roundw
        case rel => exact ⟨j + 1, by omega, by go_num, by rw [HE.out, hS.out, idx_go (hP.out.trans HB.out)], x, rfl⟩
        case measure => simp [intOf]; omega
      · go_ret
        exact ⟨ret_int (by rw [HE.out, hS.out, idx_stop (hP.out.trans HB.out)]), x, rfl⟩
    · have hz : Hid (sn - j = 0) := Lib.hid (by omega)
      go_wp2_with fail
      go_ret
      exact ⟨ret_int (by rw [HE.out, hz.out]; rfl), x, rfl⟩
set_option maxHeartbeats 4000000 in
set_option maxRecDepth 20000 in
theorem containsI_calls (s : Sl) (f : Nat → Int) (v : Int) (w : World) (hs : SlAt w 1 s (intC f)) :
    Calls Tryd.prog 122 #[.slice s.a s.len s.cap, .int .i64 v] w fun r w' => r = .returned (.bool (decide (0 ≤ idx (sameP f v) 0 s.len))) ∧ Cls w w' := by
  have C1 := Lib.hid (indexI_calls s f v w hs)
  clear hs
  generalize idx (sameP f v) 0 s.len = n at C1 ⊢
  go_enter Tryd.func122, Tryd.ntmps122
  go_wp2_with (go_at_call 132; ((with_reducible refine C1.out.mono ?_); rintro r _ ⟨rfl, y, rfl⟩))
  go_ret
  exact ⟨ret_bool (by simp), y, rfl⟩
/-- The i-th number can't stand in a key. -/
def badK (n : Nat) (f : Nat → Int) (i : Nat) : Bool := decide (f i < 0) || decide ((n : Int) ≤ f i) || decide (0 ≤ idx (sameP f (f i)) 0 i)
/-- A list is a key of a table with so many columns. -/
def keyB (n : Nat) (f : Nat → Int) (len : Nat) : Bool := decide (idx (badK n f) 0 len < 0) && decide (0 < len)
theorem keyB_no {n len : Nat} {f : Nat → Int} {j : Nat} (h : idx (badK n f) 0 len = (j : Nat)) : keyB n f len = false := by
  unfold keyB
  rw [h]
  have : decide (((j : Nat) : Int) < 0) = false := by simp
  rw [this, Bool.false_and]
theorem keyB_end {n len : Nat} {f : Nat → Int} (h : idx (badK n f) 0 len = -1) : keyB n f len = decide (0 < len) := by
  unfold keyB
  rw [h]
  simp
set_option maxHeartbeats 4000000 in
set_option maxRecDepth 20000 in
theorem isKey_calls (t : Tb) (s : Sl) (f : Nat → Int) (w : World) (hs : SlAt w 1 s (intC f)) (hc0 : t.cs.len ≤ maxLen) :
    Calls Tryd.prog 107 #[.agg #[.string t.name, .slice t.cs.a t.cs.len t.cs.cap, .slice t.ps.a t.ps.len t.ps.cap, .slice t.us.a t.us.len t.us.cap, .slice t.fs.a t.fs.len t.fs.cap, .slice t.ks.a t.ks.len t.ks.cap], .slice s.a s.len s.cap] w fun r w' => r = .returned (.bool (keyB t.cs.len f s.len)) ∧ Cls w w' := by
  have hle := hs.1
  have hmax := hs.2.1
  unfold maxLen at hmax hc0
  have H := Lib.hid hs
  clear hs
  obtain ⟨tn, ⟨ca, cn, cc⟩, tf, tps, tprim, tus, tuq, tuqn, tfs, tfk, tfkn, tfkt, tks, tch⟩ := t
  obtain ⟨sa, sn, sc⟩ := s
  simp only at hle hmax H hc0
  go_enter Tryd.func107, Tryd.ntmps107
  go_wp2_with fail
  have hbl : (w.alloc (.cells #[.string tn, .slice ca cn cc, .slice tps.a tps.len tps.cap, .slice tus.a tus.len tus.cap, .slice tfs.a tfs.len tfs.cap, .slice tks.a tks.len tks.cap] 53)).heap[w.heap.size]? = some (.cells #[.string tn, .slice ca cn cc, .slice tps.a tps.len tps.cap, .slice tus.a tus.len tus.cap, .slice tfs.a tfs.len tfs.cap, .slice tks.a tks.len tks.cap] 53) := heap_alloc_new w _
  have HBL := Lib.hid hbl
  have HB0 : Hid (Below w.heap.size w (w.alloc (.cells #[.string tn, .slice ca cn cc, .slice tps.a tps.len tps.cap, .slice tus.a tus.len tus.cap, .slice tfs.a tfs.len tfs.cap, .slice tks.a tks.len tks.cap] 53))) := Lib.hid (by repeat first | with_reducible exact Below.refl _ _ | with_reducible refine Below.setCell ?_ (by first | omega | (simp; done) | (simp; omega)) _ | with_reducible refine Below.alloc ?_ (by first | omega | (simp; done) | (simp; omega)) _ | with_reducible refine Below.drew ?_ | with_reducible refine Ext.on _ ?_ (by first | omega | (simp; done) | (simp; omega)))
  have h0s : (w.alloc (.cells #[.string tn, .slice ca cn cc, .slice tps.a tps.len tps.cap, .slice tus.a tus.len tus.cap, .slice tfs.a tfs.len tfs.cap, .slice tks.a tks.len tks.cap] 53)).heap.size = w.heap.size + 1 := by simp
  clear hbl
  generalize (w.alloc (.cells #[.string tn, .slice ca cn cc, .slice tps.a tps.len tps.cap, .slice tus.a tus.len tus.cap, .slice tfs.a tfs.len tfs.cap, .slice tks.a tks.len tks.cap] 53)) = W0 at *
  go_loopw [9] (fun i wr => ∃ j : Nat, j ≤ sn ∧ i = .int .i64 j ∧ idx (badK cn f) 0 sn = idx (badK cn f) j (sn - j) ∧ Cls W0 wr) (fun i _ => sn - (intOf i).toNat)
  case atStart => exact ⟨0, Nat.zero_le _, rfl, rfl, Cls.of (Below.refl _ _)⟩
  case round =>
    obtain ⟨j, hj, rfl, he, x, rfl⟩ := hrel
    have HE := Lib.hid he
    clear he
    have xs := x.size
    obtain ⟨b0, _, _, _, _, _, _, _, k1, _, _, _, _⟩ := six_z ((x.below.block _ (by omega)).trans HBL.out)
    by_cases hltj : j < sn
    · obtain ⟨b, off, ha, hb2, hc⟩ := H.out.2.2.2 j hltj
      simp only at ha
      subst ha
      have q0 := hc 0 (by omega)
      simp only [intC, List.getElem?_cons_zero, Nat.add_zero, Nat.mul_one] at q0
      rw [← (HB0.out.trans (x.below.mono (by omega))).cell (p := ⟨b, _, none⟩) hb2] at q0
      have hS : Hid (sn - j = (sn - (j + 1)) + 1) := Lib.hid (by omega)
      have hP : Hid (badK cn f j = (decide (f j < 0) || decide ((cn : Int) ≤ f j) || decide (0 ≤ idx (sameP f (f j)) 0 j))) := Lib.hid rfl
      have C1 : Hid (Calls Tryd.prog 122 #[.slice (some ⟨b, off, none⟩) j sc, .int .i64 (f j)] x.val fun r w' => r = .returned (.bool (decide (0 ≤ idx (sameP f (f j)) 0 j))) ∧ Cls x.val w') := Lib.hid (containsI_calls ⟨some ⟨b, off, none⟩, j, sc⟩ f (f j) x.val ((H.out.later (HB0.out.trans (x.below.mono (by omega)))).take (by show j ≤ sn; omega)))
      have hb3 : b < x.val.heap.size := by omega
      clear hc
      generalize f j = u at q0 hP C1
      by_cases h1 : u < 0
      · have d1 : decide (u < 0) = true := by simp; omega
        have hQ : Hid (badK cn f j = true) := Lib.hid (by rw [hP.out, d1]; simp)
        go_wp2_with fail
        go_ret
        exact ⟨ret_bool (by show false = keyB cn f sn; rw [keyB_no (j := j) (by rw [HE.out, hS.out, idx_stop hQ.out])]), Cls.of (HB0.out.trans (x.below.mono (by omega)))⟩
      · have d1 : decide (u < 0) = false := by simp; omega
        by_cases h2 : (cn : Int) ≤ u
        · have d2 : decide ((cn : Int) ≤ u) = true := by simp; omega
          have hQ : Hid (badK cn f j = true) := Lib.hid (by rw [hP.out, d2]; simp)
          go_wp2_with fail
          go_ret
          exact ⟨ret_bool (by show false = keyB cn f sn; rw [keyB_no (j := j) (by rw [HE.out, hS.out, idx_stop hQ.out])]), Cls.of (HB0.out.trans (x.below.mono (by omega)))⟩
        · have d2 : decide ((cn : Int) ≤ u) = false := by simp; omega
          have hQ : Hid (badK cn f j = decide (0 ≤ idx (sameP f u) 0 j)) := Lib.hid (by rw [hP.out, d1, d2]; simp)
          generalize decide (0 ≤ idx (sameP f u) 0 j) = bb at C1 hQ
          cases bb
          all_goals
            go_wp2_with (go_at_call 122; ((with_reducible refine C1.out.mono ?_); rintro r _ ⟨rfl, y, rfl⟩))
          · go_roundw
            case rel => exact ⟨j + 1, by omega, by go_num, by rw [HE.out, hS.out, idx_go hQ.out], Cls.of (x.below.trans (y.below.mono x.size))⟩
            case measure => simp [intOf]; omega
          · go_ret
            exact ⟨ret_bool (by show false = keyB cn f sn; rw [keyB_no (j := j) (by rw [HE.out, hS.out, idx_stop hQ.out])]), Cls.of (HB0.out.trans ((x.below.trans (y.below.mono x.size)).mono (by omega)))⟩
    · have hz : Hid (sn - j = 0) := Lib.hid (by omega)
      go_wp2_with fail
      go_ret
      exact ⟨ret_bool (by show decide (0 < sn) = keyB cn f sn; rw [keyB_end (by rw [HE.out, hz.out]; rfl)]), Cls.of (HB0.out.trans (x.below.mono (by omega)))⟩
end Go.Proofs.YtonlmhehddbhoaaDoor
set_option linter.unusedVariables false
namespace Go.Proofs.YtonlmhehddbhoaaDoor
open Go Go.RowKit Go.Deep
def wordsB : List ByteArray := [⟨#[115, 101, 108, 101, 99, 116]⟩, ⟨#[100, 105, 115, 116, 105, 110, 99, 116]⟩, ⟨#[97, 108, 108]⟩, ⟨#[102, 114, 111, 109]⟩, ⟨#[119, 104, 101, 114, 101]⟩, ⟨#[103, 114, 111, 117, 112]⟩, ⟨#[98, 121]⟩, ⟨#[104, 97, 118, 105, 110, 103]⟩, ⟨#[97, 115]⟩, ⟨#[111, 110]⟩, ⟨#[117, 110, 105, 111, 110]⟩, ⟨#[101, 120, 99, 101, 112, 116]⟩, ⟨#[105, 110, 116, 101, 114, 115, 101, 99, 116]⟩, ⟨#[106, 111, 105, 110]⟩, ⟨#[105, 110, 110, 101, 114]⟩, ⟨#[108, 101, 102, 116]⟩, ⟨#[114, 105, 103, 104, 116]⟩, ⟨#[102, 117, 108, 108]⟩, ⟨#[99, 114, 111, 115, 115]⟩, ⟨#[115, 101, 109, 105]⟩, ⟨#[97, 110, 116, 105]⟩, ⟨#[97, 110, 100]⟩, ⟨#[111, 114]⟩, ⟨#[110, 111, 116]⟩, ⟨#[105, 115]⟩, ⟨#[110, 117, 108, 108]⟩, ⟨#[116, 114, 117, 101]⟩, ⟨#[102, 97, 108, 115, 101]⟩, ⟨#[105, 110]⟩, ⟨#[99, 97, 115, 101]⟩, ⟨#[119, 104, 101, 110]⟩, ⟨#[116, 104, 101, 110]⟩, ⟨#[101, 108, 115, 101]⟩, ⟨#[101, 110, 100]⟩, ⟨#[118, 97, 108, 117, 101, 115]⟩, ⟨#[116, 97, 98, 108, 101]⟩, ⟨#[112, 114, 105, 109, 97, 114, 121]⟩, ⟨#[117, 110, 105, 113, 117, 101]⟩, ⟨#[102, 111, 114, 101, 105, 103, 110]⟩, ⟨#[114, 101, 102, 101, 114, 101, 110, 99, 101, 115]⟩, ⟨#[99, 104, 101, 99, 107]⟩, ⟨#[105, 110, 116]⟩, ⟨#[98, 111, 111, 108]⟩, ⟨#[116, 101, 120, 116]⟩, ⟨#[99, 111, 117, 110, 116]⟩, ⟨#[115, 117, 109]⟩, ⟨#[109, 105, 110]⟩, ⟨#[109, 97, 120]⟩, ⟨#[99, 111, 97, 108, 101, 115, 99, 101]⟩, ⟨#[108, 101, 110, 103, 116, 104]⟩, ⟨#[115, 97, 109, 101]⟩, ⟨#[109, 111, 100]⟩]
def words : List (List UInt8) := [[115, 101, 108, 101, 99, 116], [100, 105, 115, 116, 105, 110, 99, 116], [97, 108, 108], [102, 114, 111, 109], [119, 104, 101, 114, 101], [103, 114, 111, 117, 112], [98, 121], [104, 97, 118, 105, 110, 103], [97, 115], [111, 110], [117, 110, 105, 111, 110], [101, 120, 99, 101, 112, 116], [105, 110, 116, 101, 114, 115, 101, 99, 116], [106, 111, 105, 110], [105, 110, 110, 101, 114], [108, 101, 102, 116], [114, 105, 103, 104, 116], [102, 117, 108, 108], [99, 114, 111, 115, 115], [115, 101, 109, 105], [97, 110, 116, 105], [97, 110, 100], [111, 114], [110, 111, 116], [105, 115], [110, 117, 108, 108], [116, 114, 117, 101], [102, 97, 108, 115, 101], [105, 110], [99, 97, 115, 101], [119, 104, 101, 110], [116, 104, 101, 110], [101, 108, 115, 101], [101, 110, 100], [118, 97, 108, 117, 101, 115], [116, 97, 98, 108, 101], [112, 114, 105, 109, 97, 114, 121], [117, 110, 105, 113, 117, 101], [102, 111, 114, 101, 105, 103, 110], [114, 101, 102, 101, 114, 101, 110, 99, 101, 115], [99, 104, 101, 99, 107], [105, 110, 116], [98, 111, 111, 108], [116, 101, 120, 116], [99, 111, 117, 110, 116], [115, 117, 109], [109, 105, 110], [109, 97, 120], [99, 111, 97, 108, 101, 115, 99, 101], [108, 101, 110, 103, 116, 104], [115, 97, 109, 101], [109, 111, 100]]
theorem words_len : words.length = 52 := rfl
/-- Is it a reserved word? -/
def resB (s : ByteArray) : Bool := words.any fun x => s.toList == x
def letB (c : Int) : Bool := decide (97 ≤ c) && decide (c ≤ 122)
def digB (c : Int) : Bool := decide (48 ≤ c) && decide (c ≤ 57)
def okB (c : UInt8) : Bool := letB c.toNat || digB c.toNat || ((c.toNat : Int) == 95)
/-- Is it a name? -/
def nameB (s : ByteArray) : Bool :=
  if s.size = 0 then false else if 16 < s.size then false else if letB ((s.data.toList.getD 0 0).toNat) = false then false
  else if (s.data.toList.drop 1).all okB = false then false else !resB s
set_option maxHeartbeats 2000000 in
set_option maxRecDepth 20000 in
theorem letter_calls (c : Int) (w : World) : Calls Tryd.prog 103 #[.int .u8 c] w fun e w' => e = .returned (.bool (letB c)) ∧ Cls w w' := by
  go_enter Tryd.func103, Tryd.ntmps103
  go_wp2_with fail
  all_goals
    go_ret
    refine ⟨ret_bool (by rw [Bool.eq_iff_iff]; simp [letB]; try omega), Cls.of ?_⟩
    repeat first | with_reducible exact Below.refl _ _ | with_reducible refine Below.setCell ?_ (by first | omega | (simp; done) | (simp; omega)) _ | with_reducible refine Below.alloc ?_ (by first | omega | (simp; done) | (simp; omega)) _ | with_reducible refine Below.drew ?_ | with_reducible refine Ext.on _ ?_ (by first | omega | (simp; done) | (simp; omega))
set_option maxHeartbeats 2000000 in
set_option maxRecDepth 20000 in
theorem digit_calls (c : Int) (w : World) : Calls Tryd.prog 104 #[.int .u8 c] w fun e w' => e = .returned (.bool (digB c)) ∧ Cls w w' := by
  go_enter Tryd.func104, Tryd.ntmps104
  go_wp2_with fail
  all_goals
    go_ret
    refine ⟨ret_bool (by rw [Bool.eq_iff_iff]; simp [digB]; try omega), Cls.of ?_⟩
    repeat first | with_reducible exact Below.refl _ _ | with_reducible refine Below.setCell ?_ (by first | omega | (simp; done) | (simp; omega)) _ | with_reducible refine Below.alloc ?_ (by first | omega | (simp; done) | (simp; omega)) _ | with_reducible refine Below.drew ?_ | with_reducible refine Ext.on _ ?_ (by first | omega | (simp; done) | (simp; omega))
set_option maxHeartbeats 8000000 in
set_option maxRecDepth 20000 in
theorem reserved_calls (s : ByteArray) (w : World) : Calls Tryd.prog 105 #[.string s] w fun e w' => e = .returned (.bool (resB s)) ∧ Cls w w' := by
  go_enter Tryd.func105, Tryd.ntmps105
  go_wp2_with fail
  all_goals first
    | (rename_i h1 h2; rw [h1] at h2; exact absurd h2 (by decide))
    | (go_ret
       refine ⟨ret_bool (by simp only [resB, words, List.any_cons, List.any_nil, Bool.true_or, Bool.or_true, Bool.or_false, *]), Cls.of ?_⟩
       repeat first | with_reducible exact Below.refl _ _ | with_reducible refine Below.setCell ?_ (by first | omega | (simp; done) | (simp; omega)) _ | with_reducible refine Below.alloc ?_ (by first | omega | (simp; done) | (simp; omega)) _ | with_reducible refine Below.drew ?_ | with_reducible refine Ext.on _ ?_ (by first | omega | (simp; done) | (simp; omega)))
end Go.Proofs.YtonlmhehddbhoaaDoor
