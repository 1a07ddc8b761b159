/-
  DERIVED: THE SHELF's CONTRACTS AT THIS DUMP, IN PLAIN WORDS (tools/lay-plain.mjs out of 'TrydShelf.lean', which tools/lay-shelf.mjs wrote): THE SAME DECLARATIONS UNDER THE SAME NAMES: 'import', 'namespace', 'open', 'def', 'theorem' AND NOTHING ELSE: no command of the shelf's: FOR A HAND-IN. Each laying: the table of numbers ('.._ren') and one theorem, a field a fact of the dump's own or the kernel's comparison; each contract: ONE APPLICATION. Expressions as trees: what a slice of expressions holds, how it is kept from world to world, and how an argument is opened. Slices of structs as arguments: what their cells hold.
-/
import Derived.Ground.SlsfProg
import Derived.Shelf.SlSortCmp.WholeK
import Derived.Shelf.SlSortCmp.NoneTotal
import Derived.Test.YtpddkljedhghkaaDoorProg
import Derived.Test.YtpddkljedhghkaaDoorChecked
import Derived.Test.YtpddkljedhghkaaDoorA01
import Derived.Deep.Slices
import Derived.Deep.Strs
import Derived.Deep.Fields
import Derived.ProofKit
import Derived.Laws.AppendOwn
import Derived.Lib.SmallJoins
import Derived.Lib.Hide
import Derived.LoopTactic
namespace Go.Proofs
open Go.Shelf
def Tryd.laysSlF06_f110_ren : Go.Shelf.Ren := ⟨fun | 6 => 110 | 15 => 139 | 14 => 138 | 28 => 161 | 29 => 162 | 20 => 153 | 21 => 154 | 22 => 155 | 23 => 156 | 24 => 157 | 25 => 158 | 26 => 159 | 27 => 160 | 46 => 172 | 47 => 173 | 48 => 174 | 49 => 175 | 50 => 176 | 57 => 177 | n => n, fun | 22 => 32 | 24 => 39 | 25 => 118 | 3 => 3 | 39 => 137 | 0 => 0 | 53 => 171 | 55 => 134 | 4 => 4 | 46 => 165 | 45 => 164 | 50 => 95 | 5 => 5 | 9 => 9 | 66 => 178 | 70 => 182 | 76 => 184 | 77 => 185 | n => n, fun | n => n⟩
theorem Tryd.laysSlF06_f110 : Go.Proofs.SlLaysF0.n6 Tryd.prog Tryd.laysSlF06_f110_ren := {
  mixed := by kernel_rfl
  f6 := ⟨Tryd.f110.name, by decide, Tryd.func110.trans (congrArg some (by kernel_rfl))⟩
  f14 := ⟨Tryd.f138.name, by decide, Tryd.func138.trans (congrArg some (by kernel_rfl))⟩
  f15 := Tryd.func139.trans (congrArg some (by kernel_rfl))
  f20 := ⟨Tryd.f153.name, by decide, Tryd.func153.trans (congrArg some (by kernel_rfl))⟩
  f21 := ⟨Tryd.f154.name, by decide, Tryd.func154.trans (congrArg some (by kernel_rfl))⟩
  f22 := ⟨Tryd.f155.name, by decide, Tryd.func155.trans (congrArg some (by kernel_rfl))⟩
  f23 := ⟨Tryd.f156.name, by decide, Tryd.func156.trans (congrArg some (by kernel_rfl))⟩
  f24 := ⟨Tryd.f157.name, by decide, Tryd.func157.trans (congrArg some (by kernel_rfl))⟩
  f25 := ⟨Tryd.f158.name, by decide, Tryd.func158.trans (congrArg some (by kernel_rfl))⟩
  f26 := ⟨Tryd.f159.name, by decide, Tryd.func159.trans (congrArg some (by kernel_rfl))⟩
  f27 := ⟨Tryd.f160.name, by decide, Tryd.func160.trans (congrArg some (by kernel_rfl))⟩
  f28 := Tryd.func161.trans (congrArg some (by kernel_rfl))
  f29 := Tryd.func162.trans (congrArg some (by kernel_rfl))
  f46 := ⟨Tryd.f172.name, by decide, Tryd.func172.trans (congrArg some (by kernel_rfl))⟩
  f47 := Tryd.func173.trans (congrArg some (by kernel_rfl))
  f48 := Tryd.func174.trans (congrArg some (by kernel_rfl))
  f49 := ⟨Tryd.f175.name, by decide, Tryd.func175.trans (congrArg some (by kernel_rfl))⟩
  f50 := ⟨Tryd.f176.name, by decide, Tryd.func176.trans (congrArg some (by kernel_rfl))⟩
  f57 := ⟨Tryd.f177.name, by decide, Tryd.func177.trans (congrArg some (by kernel_rfl))⟩
  t0 := Tryd.underlying0
  a0 := Tryd.isAgg0
  z0 := Tryd.sizeOf0
  v0 := Tryd.zeroValue0
  t3 := Tryd.underlying3
  a3 := Tryd.isAgg3
  z3 := Tryd.sizeOf3
  v3 := Tryd.zeroValue3
  t4 := Tryd.underlying4
  a4 := Tryd.isAgg4
  z4 := Tryd.sizeOf4
  v4 := Tryd.zeroValue4
  t5 := Tryd.underlying5
  a5 := Tryd.isAgg5
  z5 := Tryd.sizeOf5
  v5 := Tryd.zeroValue5
  t9 := Tryd.underlying9
  a9 := Tryd.isAgg9
  z9 := Tryd.sizeOf9
  v9 := Tryd.zeroValue9
  t22 := Tryd.underlying32
  a22 := Tryd.isAgg32
  z22 := Tryd.sizeOf32
  v22 := Tryd.zeroValue32
  t25 := Tryd.underlying118
  a25 := Tryd.isAgg118
  z25 := Tryd.sizeOf118
  v25 := Tryd.zeroValue118
  t39 := Tryd.underlying137
  a39 := Tryd.isAgg137
  z39 := Tryd.sizeOf137
  v39 := Tryd.zeroValue137
  t45 := Tryd.underlying164
  a45 := Tryd.isAgg164
  z45 := Tryd.sizeOf164
  v45 := Tryd.zeroValue164
  t46 := Tryd.underlying165
  a46 := Tryd.isAgg165
  z46 := Tryd.sizeOf165
  v46 := Tryd.zeroValue165
  t50 := Tryd.underlying95
  a50 := Tryd.isAgg95
  z50 := Tryd.sizeOf95
  v50 := Tryd.zeroValue95
  t53 := Tryd.underlying171
  a53 := Tryd.isAgg171
  z53 := Tryd.sizeOf171
  v53 := Tryd.zeroValue171
  t55 := Tryd.underlying134
  a55 := Tryd.isAgg134
  z55 := Tryd.sizeOf134
  v55 := Tryd.zeroValue134
  t66 := Tryd.underlying178
  a66 := Tryd.isAgg178
  z66 := Tryd.sizeOf178
  v66 := Tryd.zeroValue178
  t70 := Tryd.underlying182
  a70 := Tryd.isAgg182
  z70 := Tryd.sizeOf182
  v70 := Tryd.zeroValue182
  t76 := Tryd.underlying184
  a76 := Tryd.isAgg184
  z76 := Tryd.sizeOf184
  v76 := Tryd.zeroValue184
  t77 := Tryd.underlying185
  a77 := Tryd.isAgg185
  z77 := Tryd.sizeOf185
  v77 := Tryd.zeroValue185 }
open Go.RowKit Go.Lib Go.Sort in
/-- **slices.SortFunc, IN THE DOCUMENTATION's OWN TERMS: A PERMUTATION OF WHAT THE ROW HELD, SORTED BY 'cmp(a, b) < 0'.** Which of two equals comes first is left open ("The sort is not guaranteed to be stable"). (LAID AT THE INSTANCE 'slices.SortFunc[[]querylab/api.Value,querylab/api.Value]': no walk: one application.) -/
theorem Tryd.slices_SortFunc {α : Type} [Inhabited α] (k : Nat) (aE : ∀ w, (isAgg 39).run Tryd.prog w = .ok true w) (zE : ∀ w, (Go.sizeOf 39).run Tryd.prog w = .ok k w) (enc : α → List Value) (hk : ∀ x, (enc x).length = k) (h1 : ∀ x, ∀ v ∈ enc x, v.oneCell' = true) (cf : α → α → Int) (hO : SWO (ltOf cf)) (g : Nat) (cb : Array Value) (blk off cap : Nat) (d : Array α) (w : World) (eg : ∀ args w, (callFunc g args).run Tryd.prog w = .ok (.enter g args) w) (hcmp : CmpLays Tryd.prog g cb enc k cf blk off d.size w) (hH : HoldsK enc k w blk off d) (hblk : blk < w.heap.size) (hsz : d.size < 4611686018427387904) :
    Calls Tryd.prog 110 #[.slice (some ⟨blk, off, none⟩) d.size cap, .func (.func g) #[] cb] w fun e w' =>
      e = .returned (.tuple #[]) ∧ ∃ d' n os, PermIn 0 d.size d d' ∧ SortedIn (ltOf cf) 0 d.size d' ∧ w' = sortWorldK enc k w blk off n d' os := AnyQ.slices_SortFunc Tryd.laysSlF06_f110 k aE zE enc hk h1 cf hO g cb blk off cap d w eg hcmp hH hblk hsz
open Go.RowKit Go.Lib Go.Sort in
/-- **slices.SortFunc AT NO ELEMENT, A nil SLICE TOO: nothing turns.** (LAID AT THE INSTANCE 'slices.SortFunc[[]querylab/api.Value,querylab/api.Value]': no walk: one application.) -/
theorem Tryd.slices_SortFunc_none {α : Type} [Inhabited α] (p : Option Addr) (cap : Nat) (fv : Value) (w : World) :
    Calls Tryd.prog 110 #[.slice p 0 cap, fv] w fun e w' => e = .returned (.tuple #[]) ∧ w' = w := AnyF.slices_SortFunc_none Tryd.laysSlF06_f110 p cap fv w
end Go.Proofs
set_option linter.unusedVariables false
namespace Go.Proofs.YtpddkljedhghkaaDoor
open Go Go.RowKit Go.ChangeShapes Go.WideShapes Go.Joins Go.Deep

/-- An expression: its fields, and its Kids. -/
inductive Ex where
  | mk (op ty num : Int) (text : ByteArray) (col : Int) (kids : List Ex)
namespace Ex
def op : Ex → Int | .mk o _ _ _ _ _ => o
def ty : Ex → Int | .mk _ t _ _ _ _ => t
def num : Ex → Int | .mk _ _ n _ _ _ => n
def text : Ex → ByteArray | .mk _ _ _ s _ _ => s
def col : Ex → Int | .mk _ _ _ _ c _ => c
def kids : Ex → List Ex | .mk _ _ _ _ _ l => l
def z : Ex := .mk 0 0 0 ⟨#[]⟩ 0 []
instance : Inhabited Ex := ⟨z⟩
theorem ind {M : Ex → Prop} (h : ∀ e, (∀ k ∈ e.kids, M k) → M e) (e : Ex) : M e := by
  have key : ∀ (n : Nat) (e : Ex), SizeOf.sizeOf e = n → M e := by
    intro n
    induction n using Nat.strongRecOn with
    | _ n ih =>
      intro e he
      refine h e fun k hk => ih (SizeOf.sizeOf k) ?_ k rfl
      cases e with
      | mk o t n' s c l =>
        have := List.sizeOf_lt_of_mem (show k ∈ l from hk)
        simp only [Ex.mk.sizeOf_spec] at he
        omega
  exact key _ e rfl
/-- The numbers are ones that Go's types hold. -/
def fine (e : Ex) : Prop := (Lit.int .i64 e.op).wf = true ∧ (Lit.int .i64 e.ty).wf = true ∧ (Lit.int .i64 e.num).wf = true ∧ e.text.size ≤ maxLen ∧ (Lit.int .i64 e.col).wf = true
end Ex

/-- The i-th cells behind a are those of e, its Kids behind a'. -/
def ExAt (w : World) (ok : Nat → Prop) (a : Option Addr) (i : Nat) (e : Ex) (a' : Option Addr) (len' cap' : Nat) : Prop :=
  ∃ b off, a = some ⟨b, off, none⟩ ∧ b < w.heap.size ∧ ok b ∧ w.cell? ⟨b, off + i * 6, none⟩ = some (.int .i64 e.op) ∧ w.cell? ⟨b, off + i * 6 + 1, none⟩ = some (.int .i64 e.ty) ∧
    w.cell? ⟨b, off + i * 6 + 2, none⟩ = some (.int .i64 e.num) ∧ w.cell? ⟨b, off + i * 6 + 3, none⟩ = some (.string e.text) ∧ w.cell? ⟨b, off + i * 6 + 4, none⟩ = some (.int .i64 e.col) ∧
    w.cell? ⟨b, off + i * 6 + 5, none⟩ = some (.slice a' len' cap')
/-- The slice holds these expressions; each block of theirs is one that ok lets in. -/
inductive Kids (w : World) (ok : Nat → Prop) : Option Addr → Nat → Nat → List Ex → Prop
  | mk (a : Option Addr) (len cap : Nat) (l : List Ex) (ad : Nat → Option Addr) (lens caps : Nat → Nat) (hl : l.length = len) (hc : len ≤ cap) (hm : cap ≤ maxLen) (hn : a = none → len = 0 ∧ cap = 0)
      (hcell : ∀ i, i < len → ExAt w ok a i (l.getD i Ex.z) (ad i) (lens i) (caps i)) (hf : ∀ i, i < len → (l.getD i Ex.z).fine) (h : ∀ i, i < len → Kids w ok (ad i) (lens i) (caps i) (l.getD i Ex.z).kids) : Kids w ok a len cap l

theorem ExAt.carry {w w' : World} {ok ok' : Nat → Prop} {a : Option Addr} {i : Nat} {e : Ex} {a' : Option Addr} {len' cap' : Nat} (hs : w.heap.size ≤ w'.heap.size) (hb : ∀ b, b < w.heap.size → ok b → ok' b ∧ w'.heap[b]? = w.heap[b]?) (h : ExAt w ok a i e a' len' cap') : ExAt w' ok' a i e a' len' cap' := by
  obtain ⟨b, off, ha, hlt, hok, h0, h1, h2, h3, h4, h5⟩ := h
  obtain ⟨hok', he⟩ := hb b hlt hok
  have key : ∀ o, w'.cell? ⟨b, o, none⟩ = w.cell? ⟨b, o, none⟩ := fun o => World.cell?_of_block (w := w) he
  exact ⟨b, off, ha, Nat.lt_of_lt_of_le hlt hs, hok', by rw [key]; exact h0, by rw [key]; exact h1, by rw [key]; exact h2, by rw [key]; exact h3, by rw [key]; exact h4, by rw [key]; exact h5⟩
theorem Kids.carry {w w' : World} {ok ok' : Nat → Prop} {a : Option Addr} {len cap : Nat} {l : List Ex} (hs : w.heap.size ≤ w'.heap.size) (hb : ∀ b, b < w.heap.size → ok b → ok' b ∧ w'.heap[b]? = w.heap[b]?) (h : Kids w ok a len cap l) : Kids w' ok' a len cap l := by
  induction h with
  | mk a len cap l ad lens caps hl hc hm hn hcell hf h ih => exact .mk a len cap l ad lens caps hl hc hm hn (fun i hi => (hcell i hi).carry hs hb) hf ih
theorem Kids.later {w w' : World} {ok : Nat → Prop} {a : Option Addr} {len cap : Nat} {l : List Ex} (h : Kids w ok a len cap l) (hb : Below w.heap.size w w') : Kids w' ok a len cap l := h.carry hb.size fun b hlt hok => ⟨hok, hb.block b hlt⟩
theorem Kids.any {w : World} {ok : Nat → Prop} {a : Option Addr} {len cap : Nat} {l : List Ex} (h : Kids w ok a len cap l) : Kids w (fun _ => True) a len cap l := h.carry (Nat.le_refl _) fun _ _ _ => ⟨trivial, rfl⟩
theorem Kids.len_eq {w : World} {ok : Nat → Prop} {a : Option Addr} {len cap : Nat} {l : List Ex} (h : Kids w ok a len cap l) : l.length = len := by cases h; assumption
theorem Kids.le {w : World} {ok : Nat → Prop} {a : Option Addr} {len cap : Nat} {l : List Ex} (h : Kids w ok a len cap l) : len ≤ cap := by cases h; assumption
theorem Kids.max {w : World} {ok : Nat → Prop} {a : Option Addr} {len cap : Nat} {l : List Ex} (h : Kids w ok a len cap l) : cap ≤ maxLen := by cases h; assumption
theorem Kids.at_ {w : World} {ok : Nat → Prop} {a : Option Addr} {len cap : Nat} {l : List Ex} (h : Kids w ok a len cap l) {i : Nat} (hi : i < len) : ∃ a' len' cap', ExAt w ok a i (l.getD i Ex.z) a' len' cap' ∧ (l.getD i Ex.z).fine ∧ Kids w ok a' len' cap' (l.getD i Ex.z).kids := by
  cases h with
  | mk _ _ _ _ ad lens caps hl hc hm hn hcell hf h => exact ⟨_, _, _, hcell i hi, hf i hi, h i hi⟩
theorem Kids.none {w : World} {ok : Nat → Prop} : Kids w ok Option.none 0 0 [] := .mk Option.none 0 0 [] (fun _ => Option.none) (fun _ => 0) (fun _ => 0) rfl (Nat.le_refl _) (Nat.zero_le _) (fun _ => ⟨rfl, rfl⟩) (fun i h => absurd h (by omega)) (fun i h => absurd h (by omega)) (fun i h => absurd h (by omega))

theorem getD_mem {l : List Ex} {i : Nat} (h : i < l.length) : l.getD i Ex.z ∈ l := by
  simp [List.getD, h]
theorem dropE {l : List Ex} {j : Nat} (h : j < l.length) : l.drop j = l.getD j Ex.z :: l.drop (j + 1) := by
  rw [List.drop_eq_getElem_cons h]; simp [List.getD, h]

/-! ### An argument opened -/
theorem cellsEx : Tryd.prog.cellsOf 30 = 6 := by kernel_rfl
theorem cells_below {w : World} {p : Addr} {v : Value} (h : w.cell? p = some v) : p.block < w.heap.size := by
  rcases Nat.lt_or_ge p.block w.heap.size with h' | h'
  · exact h'
  · simp [World.cell?, Array.getElem?_eq_none h'] at h
theorem list6 {α : Type} {l : List α} (h : l.length = 6) : ∃ a b c d e f, l = [a, b, c, d, e, f] := by
  match l, h with
  | [a, b, c, d, e, f], _ => exact ⟨a, b, c, d, e, f, rfl⟩
section
variable {H : Type} {enc : TypeId × Value → H} {w : World} {base : Nat} {spare : Nat → Bool} {held : Bool}
theorem trod_struct6 {P : Program} {t : TypeId} {f0 f1 f2 f3 f4 f5 : Field} {fuel : Nat} {cs : List Value} {x : DataW H × List MemPlace} (ht : P.underlying t = some (.struct #[f0, f1, f2, f3, f4, f5])) (hone : oneCellFields P #[f0, f1, f2, f3, f4, f5] = true) (hC : P.cellsOf t = 6)
    (h : DataW.trod enc P w base spare held fuel t cs = some x) : ∃ c0 c1 c2 c3 c4 c5 y0 y1 y2 y3 y4 y5 n, fuel = n + 1 ∧ cs = [c0, c1, c2, c3, c4, c5] ∧ DataW.trod enc P w base spare held n f0.type [c0] = some y0 ∧ DataW.trod enc P w base spare held n f1.type [c1] = some y1 ∧
      DataW.trod enc P w base spare held n f2.type [c2] = some y2 ∧ DataW.trod enc P w base spare held n f3.type [c3] = some y3 ∧ DataW.trod enc P w base spare held n f4.type [c4] = some y4 ∧ DataW.trod enc P w base spare held n f5.type [c5] = some y5 := by
  obtain ⟨xs, n, hn, _, hl, hlen, hg⟩ := DataW.trod_struct ht h
  obtain ⟨c0, c1, c2, c3, c4, c5, rfl⟩ := list6 (hl.trans hC)
  obtain ⟨o0, k0⟩ := hone_of hone 0 f0 rfl
  obtain ⟨o1, k1⟩ := hone_of hone 1 f1 rfl
  obtain ⟨o2, k2⟩ := hone_of hone 2 f2 rfl
  obtain ⟨o3, k3⟩ := hone_of hone 3 f3 rfl
  obtain ⟨o4, k4⟩ := hone_of hone 4 f4 rfl
  obtain ⟨o5, k5⟩ := hone_of hone 5 f5 rfl
  match xs, hlen with
  | [y0, y1, y2, y3, y4, y5], _ =>
    exact ⟨c0, c1, c2, c3, c4, c5, y0, y1, y2, y3, y4, y5, n, hn, rfl, by simpa [o0, k0] using hg 0 f0 rfl, by simpa [o1, k1] using hg 1 f1 rfl, by simpa [o2, k2] using hg 2 f2 rfl, by simpa [o3, k3] using hg 3 f3 rfl, by simpa [o4, k4] using hg 4 f4 rfl, by simpa [o5, k5] using hg 5 f5 rfl⟩
set_option maxRecDepth 100000 in
theorem open_kids : ∀ (fuel : Nat) (cs : List Value) (x : DataW H × List MemPlace), DataW.trod enc Tryd.prog w base spare held fuel 28 cs = some x → ∃ a len cap l, cs = [.slice a len cap] ∧ Kids w (fun _ => True) a len cap l := by
  intro fuel
  induction fuel using Nat.strongRecOn with
  | _ fuel ih =>
    intro cs x h
    rcases DataW.trod_slice Tryd.underlying28 h with ⟨rfl, _⟩ | ⟨a, len, cap, elems, rest, n, hn, rfl, rfl, hb, hl, hm, hlen, hel, _, _⟩
    · exact ⟨none, 0, 0, [], rfl, .none⟩
    · have hi : ∀ i, i < len → ∃ (e : Ex) (a' : Option Addr) (len' cap' : Nat), (w.cell? (a.add (i * 6)) = some (.int .i64 e.op) ∧ w.cell? (a.add (i * 6 + 1)) = some (.int .i64 e.ty) ∧ w.cell? (a.add (i * 6 + 2)) = some (.int .i64 e.num) ∧
          w.cell? (a.add (i * 6 + 3)) = some (.string e.text) ∧ w.cell? (a.add (i * 6 + 4)) = some (.int .i64 e.col) ∧ w.cell? (a.add (i * 6 + 5)) = some (.slice a' len' cap')) ∧ e.fine ∧ Kids w (fun _ => True) a' len' cap' e.kids := fun i hil => by
        have h1 := hel i hil
        rw [List.getElem?_eq_getElem (by omega), cellsEx] at h1
        obtain ⟨cs', hc, ht⟩ := Option.bind_eq_some_iff.1 h1
        obtain ⟨_, hcl, hat⟩ := World.cells?_some hc
        obtain ⟨c0, c1, c2, c3, c4, c5, y0, y1, y2, y3, y4, y5, m, hnm, rfl, t0, t1, t2, t3, t4, t5⟩ := trod_struct6 Tryd.underlying30 (by kernel_rfl) cellsEx ht
        obtain ⟨k0, e0, _, f0⟩ := DataW.trod_int Tryd.underlying3 t0
        obtain ⟨k1, e1, _, f1⟩ := DataW.trod_int Tryd.underlying3 t1
        obtain ⟨k2, e2, _, f2⟩ := DataW.trod_int Tryd.underlying2 t2
        obtain ⟨k3, e3, _, f3⟩ := DataW.trod_string Tryd.underlying9 t3
        obtain ⟨k4, e4, _, f4⟩ := DataW.trod_int Tryd.underlying3 t4
        obtain ⟨a', len', cap', l', e5, hk⟩ := ih m (by omega) _ _ t5
        simp only [List.cons.injEq, and_true] at e0 e1 e2 e3 e4 e5
        subst e0 e1 e2 e3 e4 e5
        refine ⟨.mk k0 k1 k2 k3 k4 l', a', len', cap', ⟨?_, ?_, ?_, ?_, ?_, ?_⟩, ⟨f0, f1, f2, f3, f4⟩, hk⟩
        · have := hat 0 (by omega); rw [Go.Deep.add_add] at this; exact this
        · have := hat 1 (by omega); rw [Go.Deep.add_add] at this; exact this
        · have := hat 2 (by omega); rw [Go.Deep.add_add] at this; exact this
        · have := hat 3 (by omega); rw [Go.Deep.add_add] at this; exact this
        · have := hat 4 (by omega); rw [Go.Deep.add_add] at this; exact this
        · have := hat 5 (by omega); rw [Go.Deep.add_add] at this; exact this
      obtain ⟨u, hu⟩ := Go.Deep.choose_lt hi
      obtain ⟨ad, hu⟩ := Go.Deep.choose_lt hu
      obtain ⟨lens, hu⟩ := Go.Deep.choose_lt hu
      obtain ⟨caps, hu⟩ := Go.Deep.choose_lt hu
      have hg : ∀ i, i < len → ((List.range len).map u).getD i Ex.z = u i := fun i hi' => by simp [List.getD, hi']
      refine ⟨some a, len, cap, (List.range len).map u, rfl, .mk (some a) len cap _ ad lens caps (by simp) hl hm (fun h => by cases h) (fun i hi' => ?_) (fun i hi' => by rw [hg i hi']; exact (hu i hi').2.1) (fun i hi' => by rw [hg i hi']; exact (hu i hi').2.2)⟩
      rw [hg i hi']
      obtain ⟨h0, h1, h2, h3, h4, h5⟩ := (hu i hi').1
      obtain ⟨b, off, spot⟩ := a
      have hspot : spot = none := by simpa [Addr.add] using World.cell?_spot (hu 0 (by omega)).1.1
      subst hspot
      have hadd : ∀ j, (⟨b, off, none⟩ : Addr).add j = ⟨b, off + j, none⟩ := fun j => by unfold Addr.add; split <;> simp_all
      rw [hadd] at h0 h1 h2 h3 h4 h5
      exact ⟨b, off, rfl, cells_below h0, trivial, h0, by rw [Nat.add_assoc]; exact h1, by rw [Nat.add_assoc]; exact h2, by rw [Nat.add_assoc]; exact h3, by rw [Nat.add_assoc]; exact h4, by rw [Nat.add_assoc]; exact h5⟩
end
end Go.Proofs.YtpddkljedhghkaaDoor
set_option linter.unusedVariables false
namespace Go.Proofs.YtpddkljedhghkaaDoor
open Go Go.RowKit Go.ChangeShapes Go.WideShapes Go.Joins Go.Deep
/-- A slice's three parts. -/
structure Sl where
  a : Option Addr
  len : Nat
  cap : Nat
def Sl.v (s : Sl) : Value := .slice s.a s.len s.cap
def Sl.z : Sl := ⟨none, 0, 0⟩
/-- The slice's elements are k cells each, and these are they. -/
def SlAt (w : World) (k : Nat) (s : Sl) (cell : Nat → List Value) : Prop :=
  s.len ≤ s.cap ∧ s.cap ≤ maxLen ∧ (s.a = none → s.len = 0 ∧ s.cap = 0) ∧ ∀ i, i < s.len → ∃ b off, s.a = some ⟨b, off, none⟩ ∧ b < w.heap.size ∧ ∀ j, j < k → w.cell? ⟨b, off + i * k + j, none⟩ = (cell i)[j]?
theorem SlAt.later {w w' : World} {k : Nat} {s : Sl} {cell : Nat → List Value} (h : SlAt w k s cell) (hb : Below w.heap.size w w') : SlAt w' k s cell := by
  refine ⟨h.1, h.2.1, h.2.2.1, fun i hi => ?_⟩
  obtain ⟨b, off, ha, hlt, hc⟩ := h.2.2.2 i hi
  exact ⟨b, off, ha, Nat.lt_of_lt_of_le hlt hb.size, fun j hj => by rw [hb.cell (p := ⟨b, _, none⟩) hlt]; exact hc j hj⟩
section
variable {H : Type} {enc : TypeId × Value → H} {w : World} {base : Nat} {spare : Nat → Bool} {held : Bool}
theorem open_sl {P : Program} {t e : TypeId} {k fuel : Nat} {cs : List Value} {x : DataW H × List MemPlace} (ht : P.underlying t = some (.slice e)) (hk : P.cellsOf e = k) (hk0 : 0 < k) (h : DataW.trod enc P w base spare held fuel t cs = some x) :
    ∃ (s : Sl) (cell : Nat → List Value), cs = [s.v] ∧ SlAt w k s cell ∧ ∀ i, i < s.len → (cell i).length = k ∧ ∃ m y, m < fuel ∧ DataW.trod enc P w base spare held m e (cell i) = some y := by
  rcases DataW.trod_slice ht h with ⟨rfl, _⟩ | ⟨a, len, cap, elems, rest, n, hn, rfl, rfl, hb, hl, hm, hlen, hel, _, _⟩
  · exact ⟨Sl.z, fun _ => [], rfl, ⟨Nat.le_refl _, Nat.zero_le _, fun _ => ⟨rfl, rfl⟩, fun i hi => absurd hi (by simp [Sl.z])⟩, fun i hi => absurd hi (by simp [Sl.z])⟩
  · have hi : ∀ i, i < len → ∃ cs' : List Value, cs'.length = k ∧ (∃ m y, m < fuel ∧ DataW.trod enc P w base spare held m e cs' = some y) ∧ ∀ j, j < k → w.cell? ((a.add (i * k)).add j) = cs'[j]? := fun i hil => by
      have h1 := hel i hil
      rw [List.getElem?_eq_getElem (by omega), hk] at h1
      obtain ⟨cs', hc, ht'⟩ := Option.bind_eq_some_iff.1 h1
      obtain ⟨_, hcl, hat⟩ := World.cells?_some hc
      exact ⟨cs', hcl, ⟨n, _, by omega, ht'⟩, fun j hj => by rw [hat j hj, List.getElem?_eq_getElem (by omega)]⟩
    obtain ⟨u, hu⟩ := Go.Deep.choose_lt hi
    obtain ⟨b, off, spot⟩ := a
    refine ⟨⟨some ⟨b, off, spot⟩, len, cap⟩, u, rfl, ⟨hl, hm, (fun h => by cases h), fun i hil => ?_⟩, fun i hil => ⟨(hu i hil).1, (hu i hil).2.1⟩⟩
    have hil2 : i < len := hil
    have h0 := (hu i hil).2.2 0 hk0
    have hln := (hu i hil).1
    rw [List.getElem?_eq_getElem (by omega)] at h0
    have hspot : spot = none := by
      have h1 := (hu 0 (by omega)).2.2 0 hk0
      have hl1 := (hu 0 (by omega)).1
      rw [List.getElem?_eq_getElem (by omega), Nat.zero_mul, Go.Deep.add_add] at h1
      simpa [Addr.add] using World.cell?_spot h1
    subst hspot
    have hadd : ∀ (o j : Nat), (⟨b, o, none⟩ : Addr).add j = ⟨b, o + j, none⟩ := fun o j => by unfold Addr.add; split <;> simp_all
    refine ⟨b, off, rfl, ?_, fun j hj => ?_⟩
    · rw [hadd, hadd] at h0
      exact cells_below h0
    · have := (hu i hil).2.2 j hj
      rw [hadd, hadd] at this
      exact this
end
end Go.Proofs.YtpddkljedhghkaaDoor
