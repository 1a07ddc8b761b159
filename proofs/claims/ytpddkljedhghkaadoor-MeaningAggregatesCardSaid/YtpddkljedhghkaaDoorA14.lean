/-
  Rows of expressions that a call makes, and the program's Shift: for all expressions whose lists are short, a new tree with the columns shifted. A table that is being made, and tables that are made: the blocks of each lie between two heights. The sum of the Ints of a list of values: the program's sum.
-/
import Derived.Test.YtpddkljedhghkaaDoorA08
import Derived.Maps.AppendAt
import Derived.OwnWalk
import Derived.Laws.Entries
import Derived.BigQuiet
import Derived.Test.YtpddkljedhghkaaDoorA13
import Derived.Test.YtpddkljedhghkaaDoorA09
import Derived.Laws.OwnMore
import Derived.Test.YtpddkljedhghkaaDoorA10
import Derived.Test.YtpddkljedhghkaaDoorA02
set_option linter.unusedVariables false
namespace Go.Proofs.YtpddkljedhghkaaDoor
open Go Go.RowKit

/-- An expression with the slice of its Kids. -/
structure Rec where
  e : Ex
  a : Option Addr
  len : Nat
  cap : Nat
def Rec.z : Rec := ⟨Ex.z, none, 0, 0⟩
def Rec.cells (r : Rec) : List Value := [.int .i64 r.e.op, .int .i64 r.e.ty, .int .i64 r.e.num, .string r.e.text, .int .i64 r.e.col, .slice r.a r.len r.cap]
def flatR : List Rec → List Value
  | [] => []
  | r :: l => r.cells ++ flatR l
theorem flatR_length (l : List Rec) : (flatR l).length = l.length * 6 := by
  induction l with
  | nil => rfl
  | cons r l ih => simp [flatR, Rec.cells, ih]; omega
theorem flatR_append (l m : List Rec) : flatR (l ++ m) = flatR l ++ flatR m := by
  induction l with
  | nil => rfl
  | cons r l ih => simp [flatR, ih]
theorem flatR_one (l : List Rec) : ∀ u ∈ flatR l, u.oneCell' = true := by
  induction l with
  | nil => intro u h; simp [flatR] at h
  | cons r l ih =>
    intro u h
    simp only [flatR, Rec.cells, List.mem_append, List.mem_cons, List.not_mem_nil, or_false] at h
    rcases h with (rfl | rfl | rfl | rfl | rfl | rfl) | h
    any_goals rfl
    exact ih u h
theorem flatR_at (l : List Rec) : ∀ i, i < l.length → (flatR l)[i * 6]? = some (.int .i64 (l.getD i Rec.z).e.op) ∧ (flatR l)[i * 6 + 1]? = some (.int .i64 (l.getD i Rec.z).e.ty) ∧ (flatR l)[i * 6 + 2]? = some (.int .i64 (l.getD i Rec.z).e.num) ∧
    (flatR l)[i * 6 + 3]? = some (.string (l.getD i Rec.z).e.text) ∧ (flatR l)[i * 6 + 4]? = some (.int .i64 (l.getD i Rec.z).e.col) ∧ (flatR l)[i * 6 + 5]? = some (.slice (l.getD i Rec.z).a (l.getD i Rec.z).len (l.getD i Rec.z).cap) := by
  induction l with
  | nil => intro i h; simp at h
  | cons r l ih =>
    intro i h
    cases i with
    | zero => simp [flatR, Rec.cells]
    | succ i =>
      have h2 := ih i (by simpa using h)
      rw [show (i + 1) * 6 = i * 6 + 6 by omega]
      simpa [flatR, Rec.cells, List.getD] using h2
/-- A row of the call's own that holds these expressions; their Kids lie beside it. -/
def RowOf (w : World) (base : Nat) (v : Value) (rs : List Rec) : Prop :=
  w.ownsRow base 30 6 v rs.length (flatR rs) ∧ ∀ r ∈ rs, r.e.fine ∧ Kids w (fun b => base ≤ b ∧ v.ownBlock ≠ some b) r.a r.len r.cap r.e.kids
theorem own_later {w w' : World} {base size n : Nat} {e : TypeId} {v : Value} {xs : List Value} (h : w.ownsRow base e size v n xs) (hb : Below w.heap.size w w') : w'.ownsRow base e size v n xs := by
  refine ⟨h.1, h.2.imp id ?_⟩
  rintro ⟨g, cap, cur, hv, hg, hh, rest⟩
  exact ⟨g, cap, cur, hv, hg, (hb.block g (Array.getElem?_eq_some_iff.1 hh).1).trans hh, rest⟩
theorem RowOf.nil (w : World) (base : Nat) : RowOf w base (.slice none 0 0) [] := ⟨World.ownsRow_nil w base _ 6, fun r h => by simp at h⟩
theorem RowOf.push {w w1 w3 : World} {base : Nat} {v v' : Value} {rs : List Rec} {r : Rec} {o : Obj} (h : RowOf w base v rs) (hbase : base ≤ w.heap.size) (hb : Below w.heap.size w w1) (hf : r.e.fine) (hk : Kids w1 (fun b => w.heap.size ≤ b) r.a r.len r.cap r.e.kids)
    (hown : w3.ownsRow base 30 6 v' (rs.length + 1) (flatR rs ++ r.cells)) (hg : (w1.alloc o).grownBy w3 v.ownBlock) (hat : v'.ownBlock = v.ownBlock ∨ v'.ownBlock = some (w1.alloc o).heap.size) : RowOf w3 base v' (rs ++ [r]) := by
  have hlt := h.1.lt
  have hs1 := hb.size
  have hs2 : (w1.alloc o).heap.size = w1.heap.size + 1 := by simp
  have hs3 := hg.size
  have hblk : ∀ b, b < w1.heap.size → v.ownBlock ≠ some b → v'.ownBlock ≠ some b ∧ w3.heap[b]? = w1.heap[b]? := fun b hlt' hne => by
    refine ⟨?_, (hg.block b (by omega) (fun e => hne e.symm)).trans (Below.heap_alloc _ _ _ hlt')⟩
    rcases hat with e | e <;> rw [e]
    · exact hne
    · rw [hs2]; intro e; injection e; omega
  refine ⟨?_, fun q hq => ?_⟩
  · rw [List.length_append, flatR_append]
    simpa [flatR] using hown
  · rcases List.mem_append.1 hq with hq | hq
    · obtain ⟨f, hk0⟩ := h.2 q hq
      refine ⟨f, hk0.carry (by omega) fun b hlt' ⟨hb1, hb2⟩ => ?_⟩
      obtain ⟨g1, g2⟩ := hblk b (by omega) hb2
      exact ⟨⟨hb1, g1⟩, g2.trans (hb.block b hlt')⟩
    · obtain rfl : q = r := by simpa using hq
      refine ⟨hf, hk.carry (by omega) fun b hlt' hb1 => ?_⟩
      obtain ⟨g1, g2⟩ := hblk b hlt' (fun e => by have := hlt b e; omega)
      exact ⟨⟨by omega, g1⟩, g2⟩
theorem RowOf.later {w w' : World} {base : Nat} {v : Value} {rs : List Rec} (h : RowOf w base v rs) (hb : Below w.heap.size w w') : RowOf w' base v rs := ⟨own_later h.1 hb, fun r hr => ⟨(h.2 r hr).1, (h.2 r hr).2.later hb⟩⟩
theorem RowOf.kids {w : World} {base : Nat} {v : Value} {rs : List Rec} (h : RowOf w base v rs) : ∃ a cap, v = .slice a rs.length cap ∧ Kids w (fun b => base ≤ b) a rs.length cap (rs.map Rec.e) := by
  have hr : ∀ i, i < rs.length → rs.getD i Rec.z ∈ rs := fun i hi => by simp [List.getD, hi]
  have he : ∀ i, i < rs.length → (rs.map Rec.e).getD i Ex.z = (rs.getD i Rec.z).e := fun i hi => by simp [List.getD, hi]
  have hin : ∀ i, i < rs.length → (rs.getD i Rec.z).e.fine ∧ Kids w (fun b => base ≤ b) (rs.getD i Rec.z).a (rs.getD i Rec.z).len (rs.getD i Rec.z).cap (rs.getD i Rec.z).e.kids := fun i hi => by
    obtain ⟨f, hk⟩ := h.2 _ (hr i hi)
    exact ⟨f, hk.carry (Nat.le_refl _) fun b _ ⟨h1, _⟩ => ⟨h1, rfl⟩⟩
  rcases h.1.2 with ⟨rfl, h0⟩ | ⟨g, cap, cur, rfl, hb, hh, hn, hc, hs, ht⟩
  · have : rs = [] := List.eq_nil_of_length_eq_zero h0
    subst this
    exact ⟨none, 0, rfl, .none⟩
  · refine ⟨some ⟨g, 0, none⟩, cap, rfl, .mk _ _ _ _ (fun i => (rs.getD i Rec.z).a) (fun i => (rs.getD i Rec.z).len) (fun i => (rs.getD i Rec.z).cap) (by simp) hn hc (fun h => by cases h) (fun i hi => ?_) (fun i hi => by rw [he i hi]; exact (hin i hi).1) (fun i hi => by rw [he i hi]; exact (hin i hi).2)⟩
    rw [he i hi]
    have hcell := World.ownsRow.cells h.1 (g := g) rfl
    have hadd : ∀ j, (⟨g, 0, none⟩ : Addr).add j = ⟨g, 0 + j, none⟩ := fun j => by unfold Addr.add; split <;> simp_all
    obtain ⟨f0, f1, f2, f3, f4, f5⟩ := flatR_at rs i hi
    have c0 := hcell _ _ f0
    have c1 := hcell _ _ f1
    have c2 := hcell _ _ f2
    have c3 := hcell _ _ f3
    have c4 := hcell _ _ f4
    have c5 := hcell _ _ f5
    rw [hadd] at c0 c1 c2 c3 c4 c5
    exact ⟨g, 0, rfl, (Array.getElem?_eq_some_iff.1 hh).1, hb, c0, c1, c2, c3, c4, c5⟩
theorem Kids.set {w : World} {ok : Nat → Prop} {a : Option Addr} {len cap : Nat} {l : List Ex} (h : Kids w ok a len cap l) {p : Addr} {u : Value} (hp : ∀ b, ok b → b ≠ p.block) : Kids (w.setCell p u) ok a len cap l :=
  h.carry (by simp [World.setCell]) fun b _ hok => ⟨hok, Below.heap_setCell _ _ _ _ (hp b hok)⟩

/-- Every list of Kids in it is short. -/
inductive Slim : Ex → Prop
  | mk (e : Ex) (h : e.kids.length ≤ 12) (hk : ∀ k ∈ e.kids, Slim k) : Slim e
theorem Slim.le {e : Ex} (h : Slim e) : e.kids.length ≤ 12 := by cases h; assumption
theorem Slim.kid {e : Ex} (h : Slim e) : ∀ k ∈ e.kids, Slim k := by cases h; assumption
theorem Rec.one (r : Rec) : ∀ u ∈ r.cells, u.oneCell' = true := fun u h => flatR_one [r] u (by simpa [flatR] using h)
theorem cells_new (w : World) (l : List Value) (t : TypeId) : ∀ j u, l[j]? = some u → (w.alloc (.cells l.toArray t)).cell? ((⟨w.heap.size, 0, none⟩ : Addr).add j) = some u := by
  intro j u h
  have hadd : (⟨w.heap.size, 0, none⟩ : Addr).add j = ⟨w.heap.size, j, none⟩ := by unfold Addr.add; split <;> simp_all
  rw [hadd, cell_of_row _ _ _ l.toArray t (0, 0) (heap_alloc_new w _)]
  simpa using h
end Go.Proofs.YtpddkljedhghkaaDoor
set_option linter.unusedVariables false
namespace Go.Proofs.YtpddkljedhghkaaDoor
open Go Go.RowKit Go.Deep
theorem free_z {w : World} {b : Nat} {cs : Array Value} {t : TypeId} (h : w.heap[b]? = some (.cells cs t (0, 0))) (i : Nat) : w.frozen? ⟨b, i, none⟩ = false := by simp [World.frozen?, h]
theorem three_z {W : World} {b : Nat} {a0 a1 a2 : Value} {t : TypeId} (h : W.heap[b]? = some (.cells #[a0, a1, a2] t)) :
    b < W.heap.size ∧ W.frozen? ⟨b, 0, none⟩ = false ∧ W.frozen? ⟨b, 1, none⟩ = false ∧ W.frozen? ⟨b, 2, none⟩ = false ∧ W.cell? ⟨b, 0, none⟩ = some a0 ∧ W.cell? ⟨b, 1, none⟩ = some a1 ∧ W.cell? ⟨b, 2, none⟩ = some a2 := by
  refine ⟨(Array.getElem?_eq_some_iff.1 h).1, free_z h _, free_z h _, free_z h _, ?_, ?_, ?_⟩
  all_goals
    rw [cell_of_row _ _ _ _ _ (0, 0) h]
    rfl
/-- A world in which block b is as it was. -/
structure Kept (b : Nat) (w : World) where
  val : World
  same : val.heap[b]? = w.heap[b]?
instance (b : Nat) (w : World) : Nonempty (Kept b w) := ⟨⟨w, rfl⟩⟩
@[go_sem] theorem Kept.cell {b : Nat} {w : World} (x : Kept b w) (o : Nat) : x.val.cell? ⟨b, o, none⟩ = w.cell? ⟨b, o, none⟩ := World.cell?_of_block (w := w) x.same
theorem blk_ne {w : World} {a b : Nat} {c1 c2 : Array Value} {t1 t2 : TypeId} (h1 : w.heap[a]? = some (.cells c1 t1)) (h2 : w.heap[b]? = some (.cells c2 t2)) (h : t1 ≠ t2) : a ≠ b := by
  intro e
  rw [e, h2] at h1
  simp only [Option.some.injEq, Obj.cells.injEq] at h1
  exact h h1.2.1.symm
/-- The slice's blocks lie between lo and hi. -/
def SlI (w : World) (k : Nat) (s : Sl) (c : Nat → List Value) (lo hi : Nat) : Prop := SlAt w k s c ∧ ∀ b off, s.a = some ⟨b, off, none⟩ → lo ≤ b ∧ b < hi
theorem SlI.carry {w w' : World} {k : Nat} {s : Sl} {c : Nat → List Value} {lo hi : Nat} (h : SlI w k s c lo hi) (hb : ∀ b, lo ≤ b → b < hi → w'.heap[b]? = w.heap[b]?) (hs : w.heap.size ≤ w'.heap.size) : SlI w' k s c lo hi := by
  refine ⟨⟨h.1.1, h.1.2.1, h.1.2.2.1, fun i hi => ?_⟩, h.2⟩
  obtain ⟨b, off, ha, hlt, hc⟩ := h.1.2.2.2 i hi
  obtain ⟨h1, h2⟩ := h.2 b off ha
  exact ⟨b, off, ha, Nat.lt_of_lt_of_le hlt hs, fun j hj => by rw [World.cell?_of_block (w := w) (hb b h1 h2)]; exact hc j hj⟩
structure TbI (w : World) (t : Tb) (lo hi : Nat) : Prop where
  name : t.name.size ≤ maxLen
  cols : SlI w 3 t.cs (fun i => (t.col i).cells) lo hi
  colf : ∀ i, i < t.cs.len → (t.col i).name.size ≤ maxLen ∧ (Lit.int .i64 (t.col i).ty).wf = true
  prim : SlI w 1 t.ps (intC t.prim) lo hi
  uqs : SlI w 1 t.us (fun i => [(t.uq i).v]) lo hi
  uqn : ∀ i, i < t.us.len → SlI w 1 (t.uq i) (intC (t.uqn i)) lo hi
  fks : SlI w 2 t.fs (fun i => [(t.fk i).v, .string (t.fkt i)]) lo hi
  fkn : ∀ i, i < t.fs.len → SlI w 1 (t.fk i) (intC (t.fkn i)) lo hi ∧ (t.fkt i).size ≤ maxLen
  kids : Kids w (fun b => lo ≤ b ∧ b < hi) t.ks.a t.ks.len t.ks.cap t.checks
theorem TbI.carry {w w' : World} {t : Tb} {lo hi : Nat} (h : TbI w t lo hi) (hb : ∀ b, lo ≤ b → b < hi → w'.heap[b]? = w.heap[b]?) (hs : w.heap.size ≤ w'.heap.size) : TbI w' t lo hi :=
  ⟨h.name, h.cols.carry hb hs, h.colf, h.prim.carry hb hs, h.uqs.carry hb hs, fun i hi => (h.uqn i hi).carry hb hs, h.fks.carry hb hs, fun i hi => ⟨(h.fkn i hi).1.carry hb hs, (h.fkn i hi).2⟩, h.kids.carry hs fun b _ ⟨h1, h2⟩ => ⟨⟨h1, h2⟩, hb b h1 h2⟩⟩
theorem TbI.at_ {w : World} {t : Tb} {lo hi : Nat} (h : TbI w t lo hi) : TbAt w t :=
  ⟨h.name, h.cols.1, h.colf, h.prim.1, h.uqs.1, fun i hi => (h.uqn i hi).1, h.fks.1, fun i hi => ⟨(h.fkn i hi).1.1, (h.fkn i hi).2⟩, h.kids.any⟩
/-- What lies in memory of a table that is being made: its box xb, its key's number in block pb, and the tape. All of it lies behind the world W. -/
structure Fg (T m : Nat) (W : World) (xb pb : Nat) (nm : ByteArray) (cs us fs ks : Value) (wr : World) : Prop where
  tp : Tp T W wr
  tape : TapeAt T m wr
  tlt : T < W.heap.size
  xlo : W.heap.size ≤ xb
  x : wr.heap[xb]? = some (.cells #[.string nm, cs, .slice (some ⟨pb, 0, none⟩) 1 1, us, fs, ks] 53)
  plo : W.heap.size ≤ pb
  pr : wr.heap[pb]? = some (.cells #[.int .i64 0] 3)
namespace Fg
variable {T m m' xb pb : Nat} {W wr : World} {nm : ByteArray} {cs us fs ks : Value}
theorem below {w' : World} (h : Fg T m W xb pb nm cs us fs ks wr) (hb : Below wr.heap.size wr w') : Fg T m W xb pb nm cs us fs ks w' :=
  ⟨h.tp.trans (Tp.ofBelow hb), h.tape.later hb, h.tlt, h.xlo, (hb.block _ (Array.getElem?_eq_some_iff.1 h.x).1).trans h.x, h.plo, (hb.block _ (Array.getElem?_eq_some_iff.1 h.pr).1).trans h.pr⟩
theorem next (h : Fg T m W xb pb nm cs us fs ks wr) (z : Lat T m' wr) : Fg T m' W xb pb nm cs us fs ks z.val := by
  have hT := h.tlt
  have h1 := h.xlo
  have h2 := h.plo
  exact ⟨h.tp.trans z.tp, z.at_, h.tlt, h.xlo, (z.tp.block _ (Array.getElem?_eq_some_iff.1 h.x).1 (by omega)).trans h.x, h.plo, (z.tp.block _ (Array.getElem?_eq_some_iff.1 h.pr).1 (by omega)).trans h.pr⟩
theorem more (h : Fg T m W xb pb nm cs us fs ks wr) (hm : m ≤ m') : Fg T m' W xb pb nm cs us fs ks wr := ⟨h.tp, h.tape.mono hm, h.tlt, h.xlo, h.x, h.plo, h.pr⟩
theorem grown {w' : World} {row : Option Nat} (h : Fg T m W xb pb nm cs us fs ks wr) (hg : wr.grownBy w' row) (hr : ∀ k, row = some k → W.heap.size ≤ k ∧ k ≠ xb ∧ k ≠ pb) : Fg T m W xb pb nm cs us fs ks w' := by
  have hT := h.tlt
  have hb : Below (T + 1) wr w' := Below.grown (Below.refl _ _) hg h.tape.lt fun k hk => by
    have := (hr k hk).1
    omega
  exact ⟨h.tp.grown hg fun k hk => (hr k hk).1, h.tape.upto hb, h.tlt, h.xlo, (hg.block _ (Array.getElem?_eq_some_iff.1 h.x).1 fun e => (hr _ e.symm).2.1 rfl).trans h.x, h.plo, (hg.block _ (Array.getElem?_eq_some_iff.1 h.pr).1 fun e => (hr _ e.symm).2.2 rfl).trans h.pr⟩
theorem ne (h : Fg T m W xb pb nm cs us fs ks wr) : pb ≠ xb := blk_ne h.pr h.x (by decide)
end Fg
end Go.Proofs.YtpddkljedhghkaaDoor
set_option linter.unusedVariables false
namespace Go.Proofs.YtpddkljedhghkaaDoor.BG
open Go Go.RowKit
theorem add64_run (x y c : Int) (w : World) (hx : 0 ≤ x) (hy : 0 ≤ y) (hc0 : 0 ≤ c) (hc : c ≤ 1) :
    (callFunc 112 #[.int .u64 x, .int .u64 y, .int .u64 c]).run Tryd.prog w = .ok (.value (.tuple #[.int .u64 ((x + y + c) % 18446744073709551616), .int .u64 ((x + y + c) / 18446744073709551616)])) w := by
  rw [run_callFunc_extern Tryd.func112 (by kernel_rfl) (by kernel_rfl) (by kernel_rfl) (e := add64Entry) (by kernel_rfl), run_add64 x y c hx hy hc0 hc]
  rfl
set_option maxHeartbeats 16000000 in
set_option maxRecDepth 20000 in
theorem sum_calls (a : Option Addr) (n c : Nat) (l : List Vl) (w : World) (h : Holds w a n l) (hn : n ≤ c) (hc : c ≤ maxLen) (hk : ∀ v ∈ l, nOk v) :
    Calls Tryd.prog 69 #[.slice a n c] w fun r w' => r = .returned (.agg (vlC (sumVl l)).toArray) ∧ Cls w w' := by
  unfold maxLen at hc
  have HL := Lib.hid h.1
  have HC := Lib.hid h.2
  have HK := Lib.hid hk
  clear h hk
  go_enter Tryd.func69, Tryd.ntmps69
  go_wp2_with fail
  go_loopw [3, 4, 5, 6, 12] (fun s3 s4 s5 s6 i wr => ∃ (j : Nat) (hi lo ca q : Int) (fo : Bool), j ≤ n ∧ i = .int .i64 j ∧ s3 = .int .u64 hi ∧ s4 = .int .u64 lo ∧ s5 = .int .u64 ca ∧ s6 = .bool fo ∧ Hid (fo = anyI (l.take j)) ∧ Hid (0 ≤ lo ∧ lo < 18446744073709551616 ∧ 0 ≤ hi ∧ hi < 18446744073709551616 ∧ hi * 18446744073709551616 + lo = sumZ (l.take j) + q * 340282366920938463463374607431768211456) ∧ Cls (w.alloc (.cells #[.int .i64 0, .int .i64 0, .string ⟨#[]⟩] 39)) wr) (fun _ _ _ _ i _ => n - (intOf i).toNat)
  case atStart => exact ⟨0, 0, 0, 0, 0, false, Nat.zero_le _, rfl, rfl, rfl, rfl, rfl, Lib.hid (by simp [anyI]), Lib.hid (by simp [sumZ]), Cls.of (Below.refl _ _)⟩
  case round =>
    obtain ⟨j, hi, lo, ca, q, fo, hj, rfl, rfl, rfl, rfl, rfl, hfo, hs, x, rfl⟩ := hrel
    have xs := x.size
    simp at xs
    by_cases hlt : j < n
    · obtain ⟨b, off, ea, hb, hcell⟩ := HC.out.resolve_left (by omega)
      obtain ⟨q0, q1, q2⟩ := hcell j hlt
      subst ea
      have hb1 : b < w.heap.size + 1 := by omega
      have hvn := getD_n HK.out j
      have HS1 := Lib.hid (sumZ_next (l := l) (j := j) (by rw [HL.out]; exact hlt))
      have HA1 := Lib.hid (anyI_next (l := l) (j := j) (by rw [HL.out]; exact hlt))
      have HVN := Lib.hid hvn
      clear hcell hvn
      generalize l.getD j Vl.z = v at *
      obtain ⟨vk, vn, vs⟩ := v
      simp only at q0 q1 q2
      by_cases hv1 : vk = 1
      · subst hv1
        have hw : 0 ≤ IntKind.u64.wrap vn := by simp [IntKind.wrap, IntKind.bits, IntKind.signed]; omega
        have hlo := hs.out.1
        obtain ⟨lo1, hlo1⟩ : ∃ z, (lo + IntKind.u64.wrap vn + 0) % 18446744073709551616 = z := ⟨_, rfl⟩
        obtain ⟨c1, hc1⟩ : ∃ z, (lo + IntKind.u64.wrap vn + 0) / 18446744073709551616 = z := ⟨_, rfl⟩
        have A1 : Hid (∀ W, (callFunc 112 #[.int .u64 lo, .int .u64 (IntKind.u64.wrap vn), .int .u64 0]).run Tryd.prog W = .ok (.value (.tuple #[.int .u64 lo1, .int .u64 c1])) W) := Lib.hid fun W => by
          rw [add64_run _ _ _ W hlo hw (Int.le_refl _) (by omega), hlo1, hc1]
        obtain ⟨r0, r1, r2, r3, r4⟩ := hs.out
        have hw2 : 0 ≤ IntKind.u64.wrap (vn / 9223372036854775808) := by simp [IntKind.wrap, IntKind.bits, IntKind.signed]; omega
        have hvn := HVN.out
        unfold nOk at hvn
        simp only at hvn
        have ew : IntKind.u64.wrap vn = vn % 18446744073709551616 := by simp [IntKind.wrap, IntKind.bits, IntKind.signed]
        have ew2 : IntKind.u64.wrap (vn / 9223372036854775808) = if vn < 0 then 18446744073709551615 else 0 := by
          by_cases hneg : vn < 0
          · rw [if_pos hneg]; simp [IntKind.wrap, IntKind.bits, IntKind.signed]; omega
          · rw [if_neg hneg]; simp [IntKind.wrap, IntKind.bits, IntKind.signed]; omega
        have hc1b : 0 ≤ c1 ∧ c1 ≤ 1 := by
          rw [ew] at hc1
          omega
        obtain ⟨hi1, hhi1⟩ : ∃ z, (hi + IntKind.u64.wrap (vn / 9223372036854775808) + c1) % 18446744073709551616 = z := ⟨_, rfl⟩
        obtain ⟨c2, hc2⟩ : ∃ z, (hi + IntKind.u64.wrap (vn / 9223372036854775808) + c1) / 18446744073709551616 = z := ⟨_, rfl⟩
        have A2 : Hid (∀ W, (callFunc 112 #[.int .u64 hi, .int .u64 (IntKind.u64.wrap (vn / 9223372036854775808)), .int .u64 c1]).run Tryd.prog W = .ok (.value (.tuple #[.int .u64 hi1, .int .u64 c2])) W) := Lib.hid fun W => by
          rw [add64_run _ _ _ W r2 hw2 hc1b.1 hc1b.2, hhi1, hc2]
        obtain ⟨g0, g1, g2, g3, q', g4⟩ := add128 (a := vn % 18446744073709551616) (b := if vn < 0 then 18446744073709551615 else 0) (lo' := lo1) (hi' := hi1) (n := vn) r0 r1 r2 r3 r4 rfl rfl hvn.1 hvn.2 (by rw [← hlo1, ew]; omega) (by rw [← hhi1, ← hc1, ew, ew2]; simp)
        have HG : Hid (0 ≤ lo1 ∧ lo1 < 18446744073709551616 ∧ 0 ≤ hi1 ∧ hi1 < 18446744073709551616 ∧ hi1 * 18446744073709551616 + lo1 = sumZ (l.take (j + 1)) + q' * 340282366920938463463374607431768211456) := Lib.hid ⟨g0, g1, g2, g3, by rw [g4, HS1.out]; simp [intP]⟩
        have HF : Hid (true = anyI (l.take (j + 1))) := Lib.hid (by rw [HA1.out]; simp)
        clear hlo1 hc1 hlo hw r0 r1 r2 r3 r4 hw2 hvn ew ew2 hc1b hhi1 hc2 g0 g1 g2 g3 g4 hs hfo
        go_wp2_with (first | (simp only [A1.out]) | (simp only [A2.out]))
        go_roundw
        case rel => exact ⟨j + 1, hi1, lo1, c1, q', true, by omega, by go_num, rfl, rfl, rfl, rfl, HF, HG, Cls.of (x.below.trans (((Below.refl _ _).alloc (Nat.le_refl _) _).mono (by simp; omega)))⟩
        case measure => simp [intOf]; omega
      · have d1 : (vk == 1) = false := by simp [hv1]
        have hv2 : ¬ (vk = 1) := hv1
        have HG : Hid (0 ≤ lo ∧ lo < 18446744073709551616 ∧ 0 ≤ hi ∧ hi < 18446744073709551616 ∧ hi * 18446744073709551616 + lo = sumZ (l.take (j + 1)) + q * 340282366920938463463374607431768211456) := Lib.hid (by
          have := hs.out
          rw [HS1.out]
          simp only [intP, if_neg hv1]
          omega)
        have HF : Hid (fo = anyI (l.take (j + 1))) := Lib.hid (by rw [HA1.out, ← hfo.out]; simp [hv1])
        clear hs hfo hv1
        go_wp2_with fail
        go_roundw
        case rel => exact ⟨j + 1, hi, lo, ca, q, fo, by omega, by go_num, rfl, rfl, rfl, rfl, HF, HG, Cls.of (x.below.trans (((Below.refl _ _).alloc (Nat.le_refl _) _).mono (by simp; omega)))⟩
        case measure => simp [intOf]; omega
    · have htl : l.take j = l := List.take_of_length_le (by rw [HL.out]; omega)
      rw [htl] at hfo hs
      obtain ⟨r0, r1, r2, r3, r4⟩ := hs.out
      have hbd := sumZ_bd HK.out
      rw [HL.out] at hbd
      obtain ⟨E1, E2⟩ := end128 r0 r1 r2 r3 r4 (by omega) (by omega)
      have w1 : wrap64 hi = if hi < 9223372036854775808 then hi else hi - 18446744073709551616 := by
        by_cases hneg : hi < 9223372036854775808
        · rw [if_pos hneg]; unfold wrap64; omega
        · rw [if_neg hneg]; unfold wrap64; omega
      have w2 : wrap64 lo = if lo < 9223372036854775808 then lo else lo - 18446744073709551616 := by
        by_cases hneg : lo < 9223372036854775808
        · rw [if_pos hneg]; unfold wrap64; omega
        · rw [if_neg hneg]; unfold wrap64; omega
      have w3 : wrap64 lo / 9223372036854775808 = if lo < 9223372036854775808 then 0 else -1 := by
        rw [w2]; split <;> omega
      rw [← w1, ← w2, ← w3] at E1
      rw [← w1, ← w3] at E2
      have EE := Lib.hid (And.intro E1 E2)
      have HI := Lib.hid (sumVl_is l)
      have C1 : Hid (∀ W, Calls Tryd.prog 113 #[.agg #[.int .i64 1, .int .i64 (wrap64 lo), .string ⟨#[]⟩]] W fun r w' => r = .returned (.bool (vB 1 (wrap64 lo) ⟨#[]⟩)) ∧ Cls W w') := Lib.hid fun W => Valid_calls 1 _ ⟨#[]⟩ W (by unfold maxLen; show (0 : Nat) ≤ _; omega)
      have HVB : Hid (vB 1 (wrap64 lo) ⟨#[]⟩ = (decide (-1000000000000 ≤ wrap64 lo) && decide (wrap64 lo ≤ 1000000000000))) := Lib.hid (by unfold vB; simp)
      clear r0 r1 r2 r3 r4 hbd E1 E2 w1 w2 w3 htl hs HC HK
      generalize vB 1 (wrap64 lo) ⟨#[]⟩ = vb at *
      have hbx := Lib.hid ((x.below.block w.heap.size (by simp)).trans (heap_alloc_new w _))
      have HB0 : Hid (Below w.heap.size w x.val) := Lib.hid (x.on ((Below.refl _ _).alloc (Nat.le_refl _) _) (by simp))
      clear xs
      generalize x.val = X at *
      obtain ⟨c0, c1, c2, c3, c4, c5, c6⟩ := three_z hbx.out
      cases fo
      · have HR := Lib.hid (HI.out.1 hfo.out.symm)
        clear hfo HI EE C1 HVB
        go_wp2_with fail
        refine ret_ex rfl ?_
        simp [results, Tryd.results69, go_sem, c0, c4, c5, c6]
        exact ⟨by rw [HR.out]; rfl, Cls.of (by (repeat first | with_reducible exact Below.refl _ _ | with_reducible refine Below.setCell ?_ (by first | omega | (simp; done) | (simp; omega)) _ | with_reducible refine Below.alloc ?_ (by first | omega | (simp; done) | (simp; omega)) _ | with_reducible refine Below.drew ?_ | with_reducible refine Ext.on _ ?_ (by first | omega | (simp; done) | (simp; omega))); try exact HB0.out)⟩
      · have HI2 := Lib.hid (HI.out.2 hfo.out.symm)
        clear hfo HI
        by_cases hc2 : wrap64 hi = wrap64 lo / 9223372036854775808
        · have HE := Lib.hid (EE.out.1 hc2)
          have d1 : (wrap64 hi != wrap64 lo / 9223372036854775808) = false := by simp [hc2]
          have d2 : (wrap64 hi == wrap64 lo / 9223372036854775808) = true := by simp [hc2]
          clear EE hc2
          cases vb
          · have HR : Hid (sumVl l = Vl.z) := Lib.hid (HI2.out.2 (by
              have h1 := HVB.out
              have h2 := HE.out
              intro h3
              rw [← h2] at h3
              simp [h3.1, h3.2] at h1))
            clear HI2 HVB HE
            go_wp2_with (go_at_call 113; ((with_reducible refine (C1.out _).mono ?_); rintro r _ ⟨rfl, y, rfl⟩; have ys := y.size; (try simp at ys); obtain ⟨l1, l2, l3, l4, l5⟩ := y.lts (b := w.heap.size) (by first | (simp; omega) | omega); obtain ⟨e0, e1, e2, e3, e4, e5, e6⟩ := three_z ((y.below.block w.heap.size (by simp; omega)).trans ((((Below.refl _ _).alloc (Nat.le_refl _) _ : Below X.heap.size X _).block _ c0).trans hbx.out))))
            refine ret_ex rfl ?_
            simp [results, Tryd.results69, go_sem, e4, e5, e6]
            exact ⟨by rw [HR.out]; rfl, Cls.of (by (repeat first | with_reducible exact Below.refl _ _ | with_reducible refine Below.setCell ?_ (by first | omega | (simp; done) | (simp; omega)) _ | with_reducible refine Below.alloc ?_ (by first | omega | (simp; done) | (simp; omega)) _ | with_reducible refine Below.drew ?_ | with_reducible refine Ext.on _ ?_ (by first | omega | (simp; done) | (simp; omega))); try exact HB0.out)⟩
          · have HR : Hid (sumVl l = ⟨1, wrap64 lo, ⟨#[]⟩⟩) := Lib.hid (by
              have h1 := HVB.out
              have h2 := HE.out
              simp only [Bool.true_eq, Bool.and_eq_true, decide_eq_true_eq] at h1
              rw [h2] at h1 ⊢
              exact HI2.out.1 h1.1 h1.2)
            clear HI2 HVB HE
            go_wp2_with (go_at_call 113; ((with_reducible refine (C1.out _).mono ?_); rintro r _ ⟨rfl, y, rfl⟩; have ys := y.size; (try simp at ys); obtain ⟨l1, l2, l3, l4, l5⟩ := y.lts (b := w.heap.size) (by first | (simp; omega) | omega); obtain ⟨e0, e1, e2, e3, e4, e5, e6⟩ := three_z ((y.below.block w.heap.size (by simp; omega)).trans ((((Below.refl _ _).alloc (Nat.le_refl _) _ : Below X.heap.size X _).block _ c0).trans hbx.out))))
            refine ret_ex rfl ?_
            simp [results, Tryd.results69, go_sem, e4, e5, e6]
            exact ⟨by rw [HR.out]; rfl, Cls.of (by (repeat first | with_reducible exact Below.refl _ _ | with_reducible refine Below.setCell ?_ (by first | omega | (simp; done) | (simp; omega)) _ | with_reducible refine Below.alloc ?_ (by first | omega | (simp; done) | (simp; omega)) _ | with_reducible refine Below.drew ?_ | with_reducible refine Ext.on _ ?_ (by first | omega | (simp; done) | (simp; omega))); try exact HB0.out)⟩
        · have HR := Lib.hid (HI2.out.2 (EE.out.2 hc2))
          have d1 : (wrap64 hi != wrap64 lo / 9223372036854775808) = true := by simp [hc2]
          have d2 : (wrap64 hi == wrap64 lo / 9223372036854775808) = false := by simp [hc2]
          clear HI2 EE C1 HVB hc2
          go_wp2_with fail
          refine ret_ex rfl ?_
          simp [results, Tryd.results69, go_sem, c0, c4, c5, c6]
          exact ⟨by rw [HR.out]; rfl, Cls.of (by (repeat first | with_reducible exact Below.refl _ _ | with_reducible refine Below.setCell ?_ (by first | omega | (simp; done) | (simp; omega)) _ | with_reducible refine Below.alloc ?_ (by first | omega | (simp; done) | (simp; omega)) _ | with_reducible refine Below.drew ?_ | with_reducible refine Ext.on _ ?_ (by first | omega | (simp; done) | (simp; omega))); try exact HB0.out)⟩
end Go.Proofs.YtpddkljedhghkaaDoor.BG
