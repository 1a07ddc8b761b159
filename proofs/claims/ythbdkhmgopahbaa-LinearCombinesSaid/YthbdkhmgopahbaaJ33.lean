/-
  A row of a system that the tape makes; and the worlds in which a row and a right side are added, in any order. A system of the tape: what holds where a row has been added, and at the end.
-/
import Derived.Test.YthbdkhmgopahbaaJ32
set_option linter.unusedVariables false
namespace Go.Proofs.Ythbdkhmgopahbaa
open Go Go.RowKit Go.Deep
theorem mul_bd (c x : Int) (h1 : -5 ≤ c) (h2 : c ≤ 5) (h3 : 0 ≤ x) (h4 : x ≤ 1000000) : -5000000 ≤ c * x ∧ c * x ≤ 5000000 := by
  rcases (show c = -5 ∨ c = -4 ∨ c = -3 ∨ c = -2 ∨ c = -1 ∨ c = 0 ∨ c = 1 ∨ c = 2 ∨ c = 3 ∨ c = 4 ∨ c = 5 by omega) with rfl | rfl | rfl | rfl | rfl | rfl | rfl | rfl | rfl | rfl | rfl <;> omega
theorem BoxS.xcell {T m b9 n j bx q : Nat} {M L : Int} {vr vb : Value} {U : Sl} {up x : Nat → Int} {row : Nat → Sl} {co : Nat → Nat → Int} {rt : Nat → Int} {W w : World} (h : BoxS T m b9 n j M L vr vb U ⟨some ⟨bx, 0, none⟩, n, n⟩ up x row co rt W w) (hq : q < n) : w.cell? ⟨bx, q, none⟩ = some (.int .i64 (x q)) := by
  have hp := h.pos
  obtain ⟨b, off, ha, hb, hc⟩ := h.xi.2.2.resolve_left (show n ≠ 0 by omega)
  simp only [Option.some.injEq, Addr.mk.injEq, and_true] at ha
  obtain ⟨rfl, rfl⟩ := ha
  have := hc q hq
  rw [Nat.zero_add] at this
  exact this
/-- A row of the call's own, of which q places are drawn. -/
structure LineS (T m q : Nat) (v : Value) (c : Nat → Int) (W w : World) : Prop where
  tp : Tp T W w
  tape : TapeAt T m w
  tlt : T < W.heap.size
  O : w.ownsRow W.heap.size 2 1 v q (rowI c q)
  cb : ∀ i, i < q → -5 ≤ c i ∧ c i ≤ 5
namespace LineS
variable {T m m' q : Nat} {v : Value} {c : Nat → Int} {W w w' : World}
theorem step (h : LineS T m q v c W w) (hb : Tp T w w') (ht : TapeAt T m' w') : LineS T m' q v c W w' := ⟨h.tp.trans hb, ht, h.tlt, own_tp h.O hb h.tlt, h.cb⟩
theorem below (h : LineS T m q v c W w) (hb : Below w.heap.size w w') : LineS T m q v c W w' := h.step (Tp.ofBelow hb) (h.tape.later hb)
theorem next (h : LineS T m q v c W w) (z : Lat T m' w) : LineS T m' q v c W z.val := h.step z.tp z.at_
theorem more (h : LineS T m q v c W w) (hm : m ≤ m') : LineS T m' q v c W w := { h with tape := h.tape.mono hm }
theorem push {v' : Value} {r : Int} (h : LineS T m q v c W w) (hO : w'.ownsRow W.heap.size 2 1 v' (q + 1) (rowI c q ++ [.int .i64 r])) (hg : w.grownBy w' v.ownBlock) (hr : -5 ≤ r ∧ r ≤ 5) : LineS T m (q + 1) v' (updN c q r) W w' := by
  have hT := h.tlt
  have hlo : ∀ k, v.ownBlock = some k → W.heap.size ≤ k := fun k hk => (h.O.lt k hk).1
  refine ⟨h.tp.grown hg hlo, h.tape.upto ((Below.refl _ _).grown hg h.tape.lt fun k hk => by have := hlo k hk; omega), h.tlt, by rw [rowI_upd]; exact hO, fun i hi => ?_⟩
  by_cases hij : i = q
  · subst hij
    rw [updN_at]
    exact hr
  · rw [updN_ne _ _ hij]
    exact h.cb i (by omega)
/-- The finished row. -/
theorem done {b9 n j : Nat} {M L : Int} {vr vb : Value} {U X : Sl} {up x : Nat → Int} {row : Nat → Sl} {co : Nat → Nat → Int} {rt : Nat → Int} {W0 : World} (h : LineS T m q v c W w) (hB : BoxS T m' b9 n j M L vr vb U X up x row co rt W0 W) : ∃ s : Sl, v = .slice s.a s.len s.cap ∧ s.len = q ∧ IntsA w s c ∧ Apart T b9 vr vb s := by
  have hT := h.tlt
  have hb := (Array.getElem?_eq_some_iff.1 hB.box).1
  obtain ⟨s, rfl, hl, hs⟩ := IntsA.of_own h.O
  refine ⟨s, rfl, hl, hs, fun k o hk => ?_⟩
  have h3 := (h.O.lt k (by simp [Value.ownBlock, hk])).1
  refine ⟨by omega, by omega, fun e => ?_, fun e => ?_⟩
  · have := (hB.R.lt k e).2
    omega
  · have := (hB.B.lt k e).2
    omega
end LineS
/-- The worlds behind W4 in which rows and right sides may have been added. -/
structure AddC (b9 j : Nat) (vr vb : Value) (row : Nat → Sl) (rt : Nat → Int) (W4 W : World) : Prop where
  os : W.os = W4.os
  tape : W.tape = W4.tape
  output : W.output = W4.output
  size : W4.heap.size ≤ W.heap.size
  block : ∀ k, k < W4.heap.size → vr.ownBlock ≠ some k → vb.ownBlock ≠ some k → W.heap[k]? = W4.heap[k]?
  R : W.ownsRow (b9 + 1) 24 1 vr j (rowV row j)
  B : W.ownsRow (b9 + 1) 2 1 vb j (rowI rt j)
/-- What operation i of the two appends may change. -/
def AddR (vr vb : Value) (i : Nat) (w w' : World) : Prop := w.heap.size ≤ w'.heap.size ∧ ∀ k, k < w.heap.size → (i = 4 → vr.ownBlock ≠ some k) → (i = 9 → vb.ownBlock ≠ some k) → w'.heap[k]? = w.heap[k]?
def AddT (b9 j : Nat) (vr vb : Value) (row : Nat → Sl) (rt : Nat → Int) (s : Sl) (sg : Int) (W4 : World) : Nat → Value → World → Prop := fun i u W => match i with
  | 0 => u = .pointer (some ⟨b9, 1, none⟩)
  | 1 => u = vr
  | 2 => u = .slice s.a s.len s.cap
  | 3 => ∃ q, u = .slice (some ⟨q, 0, none⟩) 1 1 ∧ W4.heap.size ≤ q ∧ W.heap[q]? = some (.cells #[.slice s.a s.len s.cap] 24)
  | 4 => W.ownsRow (b9 + 1) 24 1 u (j + 1) (rowV row j ++ [.slice s.a s.len s.cap]) ∧ (u.ownBlock = vr.ownBlock ∨ ∃ k, u.ownBlock = some k ∧ W4.heap.size ≤ k)
  | 5 => u = .pointer (some ⟨b9, 2, none⟩)
  | 6 => u = vb
  | 7 => u = .int .i64 sg
  | 8 => ∃ q, u = .slice (some ⟨q, 0, none⟩) 1 1 ∧ W4.heap.size ≤ q ∧ W.heap[q]? = some (.cells #[.int .i64 sg] 2)
  | 9 => W.ownsRow (b9 + 1) 2 1 u (j + 1) (rowI rt j ++ [.int .i64 sg]) ∧ (u.ownBlock = vb.ownBlock ∨ ∃ k, u.ownBlock = some k ∧ W4.heap.size ≤ k)
  | 10 => u = .pointer (some ⟨b9, 1, none⟩)
  | 12 => u = .pointer (some ⟨b9, 2, none⟩)
  | _ => True
namespace AddC
variable {b9 j : Nat} {vr vb : Value} {row : Nat → Sl} {rt : Nat → Int} {s : Sl} {sg : Int} {W4 W W' : World}
theorem mono (hR4 : ∀ k, vr.ownBlock = some k → k < W4.heap.size) (hB4 : ∀ k, vb.ownBlock = some k → k < W4.heap.size) (i k : Nat) (u : Value) (w w' : World) (hC : AddC b9 j vr vb row rt W4 w) (hr : AddR vr vb i w w') (hk : k ≠ i) (h : AddT b9 j vr vb row rt s sg W4 k u w) : AddT b9 j vr vb row rt s sg W4 k u w' := by
  have fresh : ∀ q o, W4.heap.size ≤ q → w.heap[q]? = some o → w'.heap[q]? = some o := fun q o hq ho => (hr.2 q (Array.getElem?_eq_some_iff.1 ho).1 (fun _ e => by have := hR4 q e; omega) (fun _ e => by have := hB4 q e; omega)).trans ho
  match k, hk, h with
  | 0, _, h => exact h
  | 1, _, h => exact h
  | 2, _, h => exact h
  | 3, _, h => obtain ⟨q, h1, h2, h3⟩ := h; exact ⟨q, h1, h2, fresh q _ h2 h3⟩
  | 4, hk, h =>
    obtain ⟨h1, h2⟩ := h
    exact ⟨own_block h1 fun q hq => hr.2 q (h1.lt q hq).2 (fun e => absurd e.symm hk) (fun _ => own_own h1 hC.B (by decide) q hq), h2⟩
  | 5, _, h => exact h
  | 6, _, h => exact h
  | 7, _, h => exact h
  | 8, _, h => obtain ⟨q, h1, h2, h3⟩ := h; exact ⟨q, h1, h2, fresh q _ h2 h3⟩
  | 9, hk, h =>
    obtain ⟨h1, h2⟩ := h
    exact ⟨own_block h1 fun q hq => hr.2 q (h1.lt q hq).2 (fun _ => own_own h1 hC.R (by decide) q hq) (fun e => absurd e.symm hk), h2⟩
  | 10, _, h => exact h
  | 11, _, h => exact h
  | 12, _, h => exact h
  | _ + 13, _, h => exact h
theorem refl (i : Nat) (w : World) : AddR vr vb i w w := ⟨Nat.le_refl _, fun _ _ _ _ => rfl⟩
theorem allocR (i : Nat) (w : World) (o : Obj) : AddR vr vb i w (w.alloc o) := ⟨by simp, fun k hk _ _ => heap_alloc_old w o hk⟩
theorem alloc (h : AddC b9 j vr vb row rt W4 W) (o : Obj) : AddC b9 j vr vb row rt W4 (W.alloc o) :=
  have hb : Below W.heap.size W (W.alloc o) := (Below.refl _ _).alloc (Nat.le_refl _) o
  ⟨h.os, h.tape, h.output, Nat.le_trans h.size hb.size, fun k hk h1 h2 => (hb.block k (Nat.lt_of_lt_of_le hk h.size)).trans (h.block k hk h1 h2), own_later' h.R hb, own_later' h.B hb⟩
theorem addR (h : AddC b9 j vr vb row rt W4 W) (hg : W.grownBy W' vr.ownBlock) (ho : W'.ownsRow (b9 + 1) 24 1 vr j (rowV row j)) : AddC b9 j vr vb row rt W4 W' :=
  ⟨hg.os.trans h.os, hg.tape.trans h.tape, hg.output.trans h.output, Nat.le_trans h.size hg.size, fun k hk h1 h2 => (hg.block k (Nat.lt_of_lt_of_le hk h.size) (fun e => h1 e.symm)).trans (h.block k hk h1 h2), ho, own_block h.B fun k hk => hg.block k (h.B.lt k hk).2 fun e => own_own h.R h.B (by decide) k e.symm hk⟩
theorem addB (h : AddC b9 j vr vb row rt W4 W) (hg : W.grownBy W' vb.ownBlock) (ho : W'.ownsRow (b9 + 1) 2 1 vb j (rowI rt j)) : AddC b9 j vr vb row rt W4 W' :=
  ⟨hg.os.trans h.os, hg.tape.trans h.tape, hg.output.trans h.output, Nat.le_trans h.size hg.size, fun k hk h1 h2 => (hg.block k (Nat.lt_of_lt_of_le hk h.size) (fun e => h2 e.symm)).trans (h.block k hk h1 h2), own_block h.R fun k hk => hg.block k (h.R.lt k hk).2 fun e => own_own h.R h.B (by decide) k hk e.symm, ho⟩
theorem relR (hg : W.grownBy W' vr.ownBlock) : AddR vr vb 4 W W' := ⟨hg.size, fun k hk h1 _ => hg.block k hk fun e => h1 rfl e.symm⟩
theorem relB (hg : W.grownBy W' vb.ownBlock) : AddR vr vb 9 W W' := ⟨hg.size, fun k hk _ h2 => hg.block k hk fun e => h2 rfl e.symm⟩
end AddC
end Go.Proofs.Ythbdkhmgopahbaa
set_option linter.unusedVariables false
namespace Go.Proofs.Ythbdkhmgopahbaa
open Go Go.RowKit Go.Deep
theorem infoRow : (Try.prog.info? 24).map (fun i => (i.zero, i.size, i.bytes)) = some (some (.slice none 0 0), 1, 24) := by kernel_rfl
theorem AddC.box {b9 j : Nat} {vr vb u : Value} {row : Nat → Sl} {rt : Nat → Int} {W4 W : World} (h : AddC b9 j vr vb row rt W4 W) (hb : W4.heap[b9]? = some (.cells #[u, vr, vb] 30)) : W.heap[b9]? = some (.cells #[u, vr, vb] 30) :=
  (h.block b9 (Array.getElem?_eq_some_iff.1 hb).1 (fun e => by have := (h.R.lt b9 e).1; omega) (fun e => by have := (h.B.lt b9 e).1; omega)).trans hb
theorem AddC.fin {T m b9 n j : Nat} {M L : Int} {vr vb v4 v9 : Value} {U X s : Sl} {up x c : Nat → Int} {row : Nat → Sl} {co : Nat → Nat → Int} {rt : Nat → Int} {sg : Int} {W0 W4 W : World} (h : AddC b9 j vr vb row rt W4 W) (hB : BoxS T m b9 n j M L vr vb U X up x row co rt W0 W4)
    (h4 : AddT b9 j vr vb row rt s sg W4 4 v4 W) (h9 : AddT b9 j vr vb row rt s sg W4 9 v9 W) (hs : IntsA W4 s c) (hn : s.len = n) (ha : Apart T b9 vr vb s) (hc : ∀ k, k < n → -5 ≤ c k ∧ c k ≤ 5) (hr : -L ≤ sg ∧ sg ≤ L) :
    BoxS T m b9 n (j + 1) M L v4 v9 U X up x (updN row j s) (updN co j c) (updN rt j sg) W0 ((W.setCell ⟨b9, 1, none⟩ v4).setCell ⟨b9, 2, none⟩ v9) := by
  obtain ⟨h4, o4⟩ := h4
  obtain ⟨h9, o9⟩ := h9
  have hbox := h.box hB.box
  have e1 := heap_setCell_same W b9 1 _ _ v4 hbox
  have e2 := heap_setCell_same (W.setCell ⟨b9, 1, none⟩ v4) b9 2 _ _ v9 e1
  have n4 : ∀ k, v4.ownBlock = some k → k ≠ b9 := fun k hk => by have := (h4.lt k hk).1; omega
  have n9 : ∀ k, v9.ownBlock = some k → k ≠ b9 := fun k hk => by have := (h9.lt k hk).1; omega
  refine hB.push h.os h.tape h.output (Nat.le_trans h.size (by simp [World.setCell])) (fun k hk h1 h2 h3 => ?_) (by rw [e2]; rfl) (own_set (own_set h4 n4) n4) (own_set (own_set h9 n9) n9) o4 o9 hs hn ha hc hr
  exact (Below.heap_setCell _ _ _ _ h1).trans ((Below.heap_setCell _ _ _ _ h1).trans (h.block k hk h2 h3))
theorem IntsA.ne_nil {w : World} {s : Sl} {f : Nat → Int} {b : Nat} {t : TypeId} (h : IntsA w s f) (hp : 0 < s.len) (hb : w.heap[b]? = some (.cells #[.slice none 0 0, .slice none 0 0, .slice none 0 0] t)) : Away b s := by
  rintro c o hc rfl
  obtain ⟨b', off, ha, hlt, hq⟩ := h.2.2.resolve_left (by omega)
  rw [hc] at ha
  simp only [Option.some.injEq, Addr.mk.injEq, and_true] at ha
  obtain ⟨rfl, rfl⟩ := ha
  have h0 := hq 0 hp
  rw [cell_of_row _ _ _ _ _ (0, 0) hb, Nat.add_zero] at h0
  rcases (show o = 0 ∨ o = 1 ∨ o = 2 ∨ 3 ≤ o by omega) with rfl | rfl | rfl | h3
  · simp at h0
  · simp at h0
  · simp at h0
  · simp [h3] at h0
theorem BoxS.fin {T m b9 n j : Nat} {M L : Int} {vr vb : Value} {U X : Sl} {up x : Nat → Int} {row : Nat → Sl} {co : Nat → Nat → Int} {rt : Nat → Int} {W w : World} (h : BoxS T m b9 n j M L vr vb U X up x row co rt W w) :
    ∃ R B : Sl, vr = .slice R.a R.len R.cap ∧ vb = .slice B.a B.len B.cap ∧ ∀ w' : World, w'.os = w.os → w'.tape = w.tape → w'.output = w.output → w.heap.size ≤ w'.heap.size → (∀ k, k < w.heap.size → k ≠ W.heap.size → w'.heap[k]? = w.heap[k]?) → SysT T n j M L w' ⟨U, R, B, up, row, co, rt⟩ ∧ Tq T m W w' := by
  obtain ⟨R, B, rfl, rfl, hs⟩ := h.sys
  refine ⟨R, B, rfl, rfl, fun w' ho ht hu hz hk => ?_⟩
  have hT := h.tlt
  have hlo := h.lo
  have hpos := h.pos
  have hrows : ∀ i, i < j → IntsA w' (row i) (co i) := fun i hi => (h.rows i hi).1.keep hz fun c o hc hl => hk c hl ((h.rows i hi).1.ne_nil (by rw [(h.rows i hi).2.1]; exact hpos) h.res c o hc)
  have hR : w'.ownsRow (b9 + 1) 24 1 (.slice R.a R.len R.cap) j (rowV row j) := own_block h.R fun k hk2 => hk k (h.R.lt k hk2).2 (by have := (h.R.lt k hk2).1; omega)
  have hB : w'.ownsRow (b9 + 1) 2 1 (.slice B.a B.len B.cap) j (rowI rt j) := own_block h.B fun k hk2 => hk k (h.B.lt k hk2).2 (by have := (h.B.lt k hk2).1; omega)
  obtain ⟨R', e1, hl, hR'⟩ := own_rows hR hrows
  obtain ⟨B', e2, hl2, hB'⟩ := IntsA.of_own hB
  have e3 : R' = R := by
    obtain ⟨a, b, c⟩ := R
    obtain ⟨a', b', c'⟩ := R'
    simp only [Value.slice.injEq] at e1
    obtain ⟨rfl, rfl, rfl⟩ := e1
    rfl
  have e4 : B' = B := by
    obtain ⟨a, b, c⟩ := B
    obtain ⟨a', b', c'⟩ := B'
    simp only [Value.slice.injEq] at e2
    obtain ⟨rfl, rfl, rfl⟩ := e2
    rfl
  subst e3
  subst e4
  refine ⟨{ hs with sys := ⟨h.ui.keep hz fun c o hc hl => hk c hl (h.ui.ne_nil (by rw [h.un]; exact hpos) h.res c o hc), hR', hB'⟩ }, Tq.of ⟨ho.trans h.tp.os, ht.trans h.tp.tape, hu.trans h.tp.output, Nat.le_trans h.tp.size hz, fun k hk1 hkT => (hk k (Nat.lt_of_lt_of_le hk1 h.tp.size) (by omega)).trans (h.tp.block k hk1 hkT)⟩ (h.tape.upto ⟨ho, ht, hu, hz, fun k hk1 => hk k (Nat.lt_of_lt_of_le hk1 h.tape.lt) (by omega)⟩)⟩
end Go.Proofs.Ythbdkhmgopahbaa
