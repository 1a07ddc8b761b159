/-
  A system that the tape makes: what lies in memory while it is made. append onto a list of one's own, where the old list stays a list of one's own: its first elements are as they were. The upper bounds of a system that the tape makes.
-/
import Derived.Test.YthbdkhmgopahbaaJ29
import Derived.Test.YthbdkhmgopahbaaJ30
import Derived.Test.YthbdkhmgopahbaaJ31
import Derived.Maps.AppendAt
import Derived.Laws.OwnMore
set_option linter.unusedVariables false
namespace Go.Proofs.Ythbdkhmgopahbaa
open Go Go.RowKit Go.Deep
theorem free_z {w : World} {b : Nat} {cs : Array Value} {t : TypeId} (h : w.heap[b]? = some (.cells cs t (0, 0))) (i : Nat) : w.frozen? ⟨b, i, none⟩ = false := by simp [World.frozen?, h]
theorem three_z {W : World} {b : Nat} {a0 a1 a2 : Value} {t : TypeId} (h : W.heap[b]? = some (.cells #[a0, a1, a2] t)) :
    b < W.heap.size ∧ W.frozen? ⟨b, 0, none⟩ = false ∧ W.frozen? ⟨b, 1, none⟩ = false ∧ W.frozen? ⟨b, 2, none⟩ = false ∧ W.cell? ⟨b, 0, none⟩ = some a0 ∧ W.cell? ⟨b, 1, none⟩ = some a1 ∧ W.cell? ⟨b, 2, none⟩ = some a2 := by
  refine ⟨(Array.getElem?_eq_some_iff.1 h).1, free_z h _, free_z h _, free_z h _, ?_, ?_, ?_⟩
  all_goals
    rw [cell_of_row _ _ _ _ _ (0, 0) h]
    rfl
/-- A row's block is none of another type. -/
theorem own_ne_z {w : World} {base size n : Nat} {e : TypeId} {v : Value} {xs : List Value} (h : w.ownsRow base e size v n xs) {b : Nat} {cs : Array Value} {t : TypeId} (hb : w.heap[b]? = some (.cells cs t)) (ht : t ≠ e) : ∀ k, v.ownBlock = some k → k ≠ b := by
  rintro k hk rfl
  rcases h.2 with ⟨rfl, _⟩ | ⟨g, cap, cur, rfl, _, hh, _⟩
  · simp [Value.ownBlock] at hk
  · simp [Value.ownBlock] at hk
    subst hk
    rw [hb] at hh
    simp only [Option.some.injEq, Obj.cells.injEq] at hh
    exact ht hh.2.1
theorem own_slice_z {w : World} {base size n : Nat} {e : TypeId} {v : Value} {xs : List Value} (h : w.ownsRow base e size v (n + 1) xs) : ∃ g c, v = .slice (some ⟨g, 0, none⟩) (n + 1) c := by
  rcases h.2 with ⟨_, h0⟩ | ⟨g, cap, cur, rfl, _⟩
  · cases h0
  · exact ⟨_, _, rfl⟩
theorem own_block {w w' : World} {base size n : Nat} {e : TypeId} {v : Value} {xs : List Value} (h : w.ownsRow base e size v n xs) (hb : ∀ k, v.ownBlock = some k → w'.heap[k]? = w.heap[k]?) : w'.ownsRow base e size v n xs := by
  refine ⟨h.1, h.2.imp id ?_⟩
  rintro ⟨g, cap, cur, hv, hg, hh, rest⟩
  exact ⟨g, cap, cur, hv, hg, (hb g (by rw [hv]; rfl)).trans hh, rest⟩
theorem own_own {w : World} {b1 b2 s1 s2 n1 n2 : Nat} {e1 e2 : TypeId} {v1 v2 : Value} {x1 x2 : List Value} (h1 : w.ownsRow b1 e1 s1 v1 n1 x1) (h2 : w.ownsRow b2 e2 s2 v2 n2 x2) (he : e1 ≠ e2) : ∀ k, v1.ownBlock = some k → v2.ownBlock ≠ some k := by
  intro k hk hk2
  rcases h1.2 with ⟨rfl, _⟩ | ⟨g, cap, cur, rfl, _, hh, _⟩
  · simp [Value.ownBlock] at hk
  · simp [Value.ownBlock] at hk
    subst hk
    exact own_ne_z h2 hh he g hk2 rfl
/-- A world in which block b is as it was. -/
structure Kept (b : Nat) (w : World) where
  val : World
  same : val.heap[b]? = w.heap[b]?
instance (b : Nat) (w : World) : Nonempty (Kept b w) := ⟨⟨w, rfl⟩⟩
@[go_sem] theorem Kept.cell {b : Nat} {w : World} (x : Kept b w) (o : Nat) : x.val.cell? ⟨b, o, none⟩ = w.cell? ⟨b, o, none⟩ := World.cell?_of_block (w := w) x.same
theorem kept_start {b : Nat} {w : World} (hb : b < w.heap.size) (x : Ext w) : ∃ y : Kept b w, x.val = y.val := ⟨⟨x.val, x.below.block b hb⟩, rfl⟩
theorem IntsA.keep {w w' : World} {s : Sl} {f : Nat → Int} (h : IntsA w s f) (hs : w.heap.size ≤ w'.heap.size) (hb : ∀ c o, s.a = some ⟨c, o, none⟩ → c < w.heap.size → w'.heap[c]? = w.heap[c]?) : IntsA w' s f := by
  obtain ⟨h1, h2, h3⟩ := h
  refine ⟨h1, h2, h3.imp id ?_⟩
  rintro ⟨b, off, ha, hlt, hc⟩
  exact ⟨b, off, ha, Nat.lt_of_lt_of_le hlt hs, fun i hi => (World.cell?_of_block (a := ⟨b, off + i, none⟩) (hb b off ha hlt)).trans (hc i hi)⟩
/-- The slice does not lie in the block. -/
def Away (T : Nat) (s : Sl) : Prop := ∀ c o, s.a = some ⟨c, o, none⟩ → c ≠ T
theorem IntsA.tp {T : Nat} {w w' : World} {s : Sl} {f : Nat → Int} (h : IntsA w s f) (ha : Away T s) (hb : Tp T w w') : IntsA w' s f := h.keep hb.size fun c o hc hl => hb.block c hl (ha c o hc)
def rowV (r : Nat → Sl) (j : Nat) : List Value := (List.range j).map fun i => .slice (r i).a (r i).len (r i).cap
theorem rowV_succ (r : Nat → Sl) (j : Nat) : rowV r (j + 1) = rowV r j ++ [.slice (r j).a (r j).len (r j).cap] := by simp [rowV, List.range_succ]
theorem rowV_congr {r s : Nat → Sl} {n : Nat} (h : ∀ i, i < n → r i = s i) : rowV r n = rowV s n := by
  unfold rowV
  refine List.map_congr_left fun i hi => ?_
  rw [h i (by simpa using hi)]
theorem rowV_at (r : Nat → Sl) {n i : Nat} (h : i < n) : (rowV r n)[i]? = some (.slice (r i).a (r i).len (r i).cap) := by simp [rowV, h]
def updN {α : Type} (f : Nat → α) (j : Nat) (v : α) : Nat → α := fun i => if i = j then v else f i
theorem updN_at {α : Type} (f : Nat → α) (j : Nat) (v : α) : updN f j v j = v := by simp [updN]
theorem updN_ne {α : Type} (f : Nat → α) (v : α) {i j : Nat} (h : i ≠ j) : updN f j v i = f i := by simp [updN, h]
theorem rowV_upd (r : Nat → Sl) (j : Nat) (s : Sl) : rowV (updN r j s) (j + 1) = rowV r j ++ [.slice s.a s.len s.cap] := by
  rw [rowV_succ, updN_at, rowV_congr fun i hi => updN_ne r s (Nat.ne_of_lt hi)]
theorem rowI_upd (f : Nat → Int) (j : Nat) (v : Int) : rowI (updN f j v) (j + 1) = rowI f j ++ [.int .i64 v] := by
  rw [rowI_succ, updN_at, rowI_congr fun i hi => updN_ne f v (Nat.ne_of_lt hi)]
theorem own_rows {w : World} {base j : Nat} {v : Value} {r : Nat → Sl} {f : Nat → Nat → Int} (h : w.ownsRow base 24 1 v j (rowV r j)) (hr : ∀ i, i < j → IntsA w (r i) (f i)) : ∃ s : Sl, v = .slice s.a s.len s.cap ∧ s.len = j ∧ RowsA w s r f := by
  rcases h.2 with ⟨rfl, h0⟩ | ⟨g, cap, cur, rfl, hb, hh, hn, hc, _, _⟩
  · subst h0
    exact ⟨⟨none, 0, 0⟩, rfl, rfl, Nat.le_refl _, Nat.zero_le _, fun i hi => absurd hi (Nat.not_lt_zero _), .inl rfl⟩
  · refine ⟨⟨some ⟨g, 0, none⟩, j, cap⟩, rfl, rfl, hn, hc, hr, .inr ⟨g, 0, rfl, (Array.getElem?_eq_some_iff.1 hh).1, fun i hi => ?_⟩⟩
    have hcell := World.ownsRow.cells h (g := g) rfl
    have c0 := hcell _ _ (rowV_at r (n := j) (i := i) hi)
    rw [addN] at c0
    exact c0
/-- The slice's block is none of these. -/
def Apart (T b9 : Nat) (r q : Value) (s : Sl) : Prop := ∀ c o, s.a = some ⟨c, o, none⟩ → c ≠ T ∧ c ≠ b9 ∧ r.ownBlock ≠ some c ∧ q.ownBlock ≠ some c
theorem Apart.away {T b9 : Nat} {r q : Value} {s : Sl} (h : Apart T b9 r q s) : Away T s := fun c o hc => (h c o hc).1
/-- A system that is being made: its box b9, j rows and right sides of the call's own, the upper bounds, a point. -/
structure BoxS (T m b9 n j : Nat) (M L : Int) (vr vb : Value) (U X : Sl) (up x : Nat → Int) (row : Nat → Sl) (co : Nat → Nat → Int) (rt : Nat → Int) (W w : World) : Prop where
  tp : Tp T W w
  tape : TapeAt T m w
  tlt : T < W.heap.size
  lo : b9 = W.heap.size + 1
  pos : 0 < n
  box : w.heap[b9]? = some (.cells #[.slice U.a U.len U.cap, vr, vb] 30)
  res : w.heap[W.heap.size]? = some (.cells #[.slice none 0 0, .slice none 0 0, .slice none 0 0] 30)
  ui : IntsA w U up
  un : U.len = n
  ub : ∀ i, i < n → 0 ≤ up i ∧ up i ≤ M
  uf : Apart T b9 vr vb U
  xi : IntsA w X x
  xn : X.len = n
  xb : ∀ i, i < n → 0 ≤ x i ∧ x i ≤ M
  xf : Apart T b9 vr vb X
  R : w.ownsRow (b9 + 1) 24 1 vr j (rowV row j)
  B : w.ownsRow (b9 + 1) 2 1 vb j (rowI rt j)
  rows : ∀ i, i < j → IntsA w (row i) (co i) ∧ (row i).len = n ∧ Apart T b9 vr vb (row i)
  cb : ∀ i, i < j → ∀ k, k < n → -5 ≤ co i k ∧ co i k ≤ 5
  rb : ∀ i, i < j → -L ≤ rt i ∧ rt i ≤ L
namespace BoxS
variable {T m m' b9 n j : Nat} {M L : Int} {vr vb : Value} {U X : Sl} {up x : Nat → Int} {row : Nat → Sl} {co : Nat → Nat → Int} {rt : Nat → Int} {W w w' : World}
/-- A later world in which all blocks but the tape's are as they were. -/
theorem step (h : BoxS T m b9 n j M L vr vb U X up x row co rt W w) (hb : Tp T w w') (ht : TapeAt T m' w') : BoxS T m' b9 n j M L vr vb U X up x row co rt W w' := by
  have hT := h.tlt
  have hlo := h.lo
  exact ⟨h.tp.trans hb, ht, h.tlt, h.lo, h.pos, (hb.block _ (Array.getElem?_eq_some_iff.1 h.box).1 (by omega)).trans h.box, (hb.block _ (Array.getElem?_eq_some_iff.1 h.res).1 (by omega)).trans h.res,
    h.ui.tp h.uf.away hb, h.un, h.ub, h.uf, h.xi.tp h.xf.away hb, h.xn, h.xb, h.xf, own_tp h.R hb (by omega), own_tp h.B hb (by omega), fun i hi => ⟨(h.rows i hi).1.tp (h.rows i hi).2.2.away hb, (h.rows i hi).2⟩, h.cb, h.rb⟩
theorem below (h : BoxS T m b9 n j M L vr vb U X up x row co rt W w) (hb : Below w.heap.size w w') : BoxS T m b9 n j M L vr vb U X up x row co rt W w' := h.step (Tp.ofBelow hb) (h.tape.later hb)
theorem next (h : BoxS T m b9 n j M L vr vb U X up x row co rt W w) (z : Lat T m' w) : BoxS T m' b9 n j M L vr vb U X up x row co rt W z.val := h.step z.tp z.at_
theorem more (h : BoxS T m b9 n j M L vr vb U X up x row co rt W w) (hm : m ≤ m') : BoxS T m' b9 n j M L vr vb U X up x row co rt W w := { h with tape := h.tape.mono hm }
theorem lt_of {s : Sl} {f : Nat → Int} (h : IntsA w s f) (hp : 0 < s.len) : ∀ c o, s.a = some ⟨c, o, none⟩ → c < w.heap.size := by
  intro c o hc
  obtain ⟨b, off, ha, hlt, _⟩ := h.2.2.resolve_left (by omega)
  rw [ha] at hc
  simp only [Option.some.injEq, Addr.mk.injEq, and_true] at hc
  omega
/-- A row and a right side more. -/
theorem push {vr' vb' : Value} {s : Sl} {c : Nat → Int} {r : Int} (h : BoxS T m b9 n j M L vr vb U X up x row co rt W w) (hos : w'.os = w.os) (htp : w'.tape = w.tape) (hou : w'.output = w.output) (hsz : w.heap.size ≤ w'.heap.size)
    (hbk : ∀ k, k < w.heap.size → k ≠ b9 → vr.ownBlock ≠ some k → vb.ownBlock ≠ some k → w'.heap[k]? = w.heap[k]?)
    (hbox : w'.heap[b9]? = some (.cells #[.slice U.a U.len U.cap, vr', vb'] 30))
    (hR : w'.ownsRow (b9 + 1) 24 1 vr' (j + 1) (rowV row j ++ [.slice s.a s.len s.cap])) (hB : w'.ownsRow (b9 + 1) 2 1 vb' (j + 1) (rowI rt j ++ [.int .i64 r]))
    (oR : vr'.ownBlock = vr.ownBlock ∨ ∃ k, vr'.ownBlock = some k ∧ w.heap.size ≤ k) (oB : vb'.ownBlock = vb.ownBlock ∨ ∃ k, vb'.ownBlock = some k ∧ w.heap.size ≤ k)
    (hs : IntsA w s c) (hn : s.len = n) (ha : Apart T b9 vr vb s) (hc : ∀ k, k < n → -5 ≤ c k ∧ c k ≤ 5) (hr : -L ≤ r ∧ r ≤ L) :
    BoxS T m b9 n (j + 1) M L vr' vb' U X up x (updN row j s) (updN co j c) (updN rt j r) W w' := by
  have hT := h.tlt
  have hlo := h.lo
  have hpos := h.pos
  have hvr : ∀ k, vr.ownBlock = some k → b9 + 1 ≤ k := fun k hk => (h.R.lt k hk).1
  have hvb : ∀ k, vb.ownBlock = some k → b9 + 1 ≤ k := fun k hk => (h.B.lt k hk).1
  have keep : ∀ {s : Sl} {f : Nat → Int}, IntsA w s f → Apart T b9 vr vb s → IntsA w' s f := fun hi ha => hi.keep hsz fun k o hk hlt => hbk k hlt (ha k o hk).2.1 (ha k o hk).2.2.1 (ha k o hk).2.2.2
  have apart : ∀ {s : Sl} {f : Nat → Int}, IntsA w s f → s.len = n → Apart T b9 vr vb s → Apart T b9 vr' vb' s := fun hi hl ha k o hk => by
    have hlt := lt_of hi (by omega) k o hk
    obtain ⟨a1, a2, a3, a4⟩ := ha k o hk
    refine ⟨a1, a2, ?_, ?_⟩
    · rcases oR with e | ⟨q, e, hq⟩
      · rw [e]; exact a3
      · rw [e]; simp; omega
    · rcases oB with e | ⟨q, e, hq⟩
      · rw [e]; exact a4
      · rw [e]; simp; omega
  refine ⟨⟨hos.trans h.tp.os, htp.trans h.tp.tape, hou.trans h.tp.output, Nat.le_trans h.tp.size hsz, fun k hk hkT => (hbk k (Nat.lt_of_lt_of_le hk h.tp.size) (by omega) (fun e => by have := hvr k e; omega) (fun e => by have := hvb k e; omega)).trans (h.tp.block k hk hkT)⟩,
    h.tape.upto ⟨hos, htp, hou, hsz, fun k hk => hbk k (Nat.lt_of_lt_of_le hk h.tape.lt) (by omega) (fun e => by have := hvr k e; omega) (fun e => by have := hvb k e; omega)⟩, h.tlt, h.lo, h.pos, hbox,
    (hbk _ (Array.getElem?_eq_some_iff.1 h.res).1 (by omega) (fun e => by have := hvr _ e; omega) (fun e => by have := hvb _ e; omega)).trans h.res,
    keep h.ui h.uf, h.un, h.ub, apart h.ui h.un h.uf, keep h.xi h.xf, h.xn, h.xb, apart h.xi h.xn h.xf, by rw [rowV_upd]; exact hR, by rw [rowI_upd]; exact hB, fun i hi => ?_, fun i hi => ?_, fun i hi => ?_⟩
  · by_cases hij : i = j
    · subst hij
      rw [updN_at, updN_at]
      exact ⟨keep hs ha, hn, apart hs hn ha⟩
    · rw [updN_ne _ _ hij, updN_ne _ _ hij]
      obtain ⟨h1, h2, h3⟩ := h.rows i (by omega)
      exact ⟨keep h1 h3, h2, apart h1 h2 h3⟩
  · by_cases hij : i = j
    · subst hij
      rw [updN_at]
      exact hc
    · rw [updN_ne _ _ hij]
      exact h.cb i (by omega)
  · by_cases hij : i = j
    · subst hij
      rw [updN_at]
      exact hr
    · rw [updN_ne _ _ hij]
      exact h.rb i (by omega)
end BoxS
/-- What the tape gives: a system of n variables and k rows, elsewhere than the tape. -/
structure SysT (T n k : Nat) (M L : Int) (w : World) (y : Sy) : Prop where
  sys : SysA w y
  un : y.U.len = n
  kn : y.R.len = k
  bn : y.B.len = k
  rn : ∀ i, i < k → (y.row i).len = n
  uf : Away T y.U
  rf : Away T y.R
  bf : Away T y.B
  wf : ∀ i, i < k → Away T (y.row i)
  ub : ∀ i, i < n → 0 ≤ y.up i ∧ y.up i ≤ M
  cb : ∀ i, i < k → ∀ j, j < n → -5 ≤ y.co i j ∧ y.co i j ≤ 5
  rb : ∀ i, i < k → -L ≤ y.rt i ∧ y.rt i ≤ L
theorem SysT.tp {T n k : Nat} {M L : Int} {w w' : World} {y : Sy} (h : SysT T n k M L w y) (hb : Tp T w w') : SysT T n k M L w' y := by
  refine { h with sys := ⟨h.sys.U.tp h.uf hb, ⟨h.sys.R.1, h.sys.R.2.1, fun i hi => (h.sys.R.2.2.1 i hi).tp (h.wf i (by rw [← h.kn]; exact hi)) hb, h.sys.R.2.2.2.imp id ?_⟩, h.sys.B.tp h.bf hb⟩ }
  rintro ⟨b, off, ha, hlt, hc⟩
  exact ⟨b, off, ha, Nat.lt_of_lt_of_le hlt hb.size, fun i hi => (World.cell?_of_block (a := ⟨b, off + i, none⟩) (hb.block b hlt (h.rf b off ha))).trans (hc i hi)⟩
theorem away_own {w : World} {T base size n : Nat} {e : TypeId} {s : Sl} {xs : List Value} (h : w.ownsRow base e size (.slice s.a s.len s.cap) n xs) (hT : T < base) : Away T s := by
  intro c o hc
  have := (h.lt c (by rw [hc]; rfl)).1
  omega
theorem BoxS.sys {T m b9 n j : Nat} {M L : Int} {vr vb : Value} {U X : Sl} {up x : Nat → Int} {row : Nat → Sl} {co : Nat → Nat → Int} {rt : Nat → Int} {W w : World} (h : BoxS T m b9 n j M L vr vb U X up x row co rt W w) :
    ∃ R B : Sl, vr = .slice R.a R.len R.cap ∧ vb = .slice B.a B.len B.cap ∧ SysT T n j M L w ⟨U, R, B, up, row, co, rt⟩ := by
  have hT := h.tlt
  have hlo := h.lo
  obtain ⟨R, rfl, hl, hR⟩ := own_rows h.R fun i hi => (h.rows i hi).1
  obtain ⟨B, rfl, hl2, hB⟩ := IntsA.of_own h.B
  exact ⟨R, B, rfl, rfl, ⟨h.ui, hR, hB⟩, h.un, hl, hl2, fun i hi => (h.rows i hi).2.1, h.uf.away, away_own h.R (by omega), away_own h.B (by omega), fun i hi => (h.rows i hi).2.2.away, h.ub, h.cb, h.rb⟩
end Go.Proofs.Ythbdkhmgopahbaa
set_option linter.unusedVariables false
namespace Go.Proofs.Ythbdkhmgopahbaa
open Go Go.RowKit Go.Deep
theorem run_keep {P : Program} (w : World) (base : Nat) (t ty e : TypeId) (i : TypeInfo) (z : Value) (ht : P.underlying t = some (.slice e)) (hi : P.info? e = some i) (hz : i.zero = some z) (hb : i.bytes ≤ 1000) (h0 : 0 < i.size)
    (v : Value) (n : Nat) (xs : List Value) (hown : w.ownsRow base e i.size v n xs) (a : Addr) (c : Nat) (news : List Value) (hl : news.length = 1 * i.size) (hnews : ∀ j u, news[j]? = some u → w.cell? (a.add j) = some u) (h1 : ∀ u ∈ news, u.oneCell' = true) (hn : n ≤ 1000000)
    (v' : Value) (w' : World) (hr : (Builtin.append_ #[t, t] ty #[v, .slice (some a) 1 c]).run P w = .ok v' w') : w'.ownsRow base e i.size v n xs := by
  have hown' := hown
  rcases hown.2 with ⟨rfl, rfl⟩ | ⟨g, cap, cur, rfl, hbg, hg, hnc, hcm, hcs, htake⟩
  · have hx : xs = [] := List.eq_nil_of_length_eq_zero (by simpa using hown.1)
    subst hx
    exact World.ownsRow_nil _ _ _ _
  · by_cases hroom : n + 1 ≤ cap
    · have hfit : n * i.size + news.length ≤ cur.size := by
        rw [hl, hcs, ← Nat.add_mul]
        exact Nat.mul_le_mul_right _ hroom
      have hr2 := run_append_room (P := P) w t ty e i ht hi g n cap cur hg a 1 c news hl hnews h1 hroom hfit
      rw [hr2] at hr
      simp only [Result.ok.injEq] at hr
      obtain ⟨rfl, rfl⟩ := hr
      refine ⟨hown.1, .inr ⟨g, cap, _, rfl, hbg, setRow_heap w g cur _ e _ hg, hnc, hcm, ?_, ?_⟩⟩
      · simp only [List.size_toArray, List.length_append, List.length_take, List.length_drop, Array.length_toList]
        omega
      · have hlen : (cur.toList.take (n * i.size)).length = n * i.size := by rw [htake, hown.1]
        simp only [List.append_assoc]
        rw [List.take_append_of_le_length (by omega), List.take_of_length_le (by omega)]
        exact htake
    · have holds : ∀ j u, xs[j]? = some u → w.cell? ((⟨g, 0, none⟩ : Addr).add j) = some u := World.ownsRow.cells hown' (g := g) rfl
      have hfit : Builtin.nextslicecap (n + 1) cap * i.bytes ≤ 281474976710656 := growslice_fits (by omega) (by
        have : (n + 1) * i.bytes ≤ 1000001 * 1000 := Nat.mul_le_mul (by omega) hb
        omega)
      have hr2 := run_append_grow (P := P) w t ty e i z ht hi hz ⟨g, 0, none⟩ n cap xs hown.1 holds a 1 c news hl hnews (by omega) (by omega) hfit
      rw [hr2] at hr
      simp only [Result.ok.injEq] at hr
      obtain ⟨rfl, rfl⟩ := hr
      exact ⟨hown.1, .inr ⟨g, cap, cur, rfl, hbg, (heap_alloc_old (r := g) w.drew _ (Array.getElem?_eq_some_iff.1 hg).1).trans hg, hnc, hcm, hcs, htake⟩⟩
theorem wpList_append_keep {P : Program} {w : World} {ops : Array Oper} {rest : List Oper} {o : Oper} {a : Act} {Q : Exit → Act → World → Prop} (hgd : o.guard = none) (s x : Operand) (t : TypeId)
    (ho : o.op = .call { callee := .builtin .append, args := #[s, x], argTypes := #[t, t] })
    (base : Nat) (e : TypeId) (i : TypeInfo) (z : Value) (bytes : Nat) (ht : P.underlying t = some (.slice e)) (hi : P.info? e = some i) (hz : i.zero = some z)
    (hsize : i.size = 1) (hby : i.bytes = bytes) (hb : bytes ≤ 1000) (hzs : z.cells.size = 1)
    (v : Value) (n : Nat) (xs : List Value) (hs : a.eval s = v) (hown : w.ownsRow base e 1 v n xs)
    (ad : Addr) (c : Nat) (u : Value) (hx : a.eval x = .slice (some ad) 1 c) (hnews : w.cell? ad = some u) (h1 : u.oneCell' = true)
    (hn : n ≤ 1000000) (hbase : base ≤ w.heap.size)
    (h : ∀ v' w', w'.ownsRow base e 1 v' (n + 1) (xs ++ [u]) → w.grownBy w' v.ownBlock → (v'.ownBlock = v.ownBlock ∨ v'.ownBlock = some w.heap.size) → w'.ownsRow base e 1 v n xs → wpList P ops Q rest (a.put o.dst v') w') :
    wpList P ops Q (o :: rest) a w := by
  have hnews' : ∀ j q, [u][j]? = some q → w.cell? (ad.add j) = some q := by
    intro j q hj
    match j, hj with
    | 0, hj =>
      simp at hj
      subst hj
      rw [show ad.add 0 = ad by obtain ⟨b, off, p⟩ := ad; unfold Addr.add; split <;> simp_all]
      exact hnews
  have h1' : ∀ q ∈ [u], q.oneCell' = true := by
    intro q hq
    simp at hq
    subst hq
    exact h1
  refine wpList_plain hgd fun K hK => ?_
  obtain ⟨v', w', hr, h2, h3, _, h5⟩ := run_append_own_at (P := P) w base t o.type e i z 1 bytes ht hi hz hsize hby hzs (by decide) v n xs hown ad 1 c [u] rfl hnews' h1' (by unfold maxLen; omega) (by
    have : (n + 1) * bytes ≤ 1000001 * 1000 := Nat.mul_le_mul (by omega) hb
    omega) hbase
  have h6 := run_keep w base t o.type e i z ht hi hz (by omega) (by omega) v n xs (by rw [hsize]; exact hown) ad c [u] (by rw [hsize]; rfl) hnews' h1' hn v' w' hr
  rw [hsize] at h6
  unfold Oper.wp execOp
  simp only [ho, resolve, invoke, builtin, Sem.run_bind, Sem.run_pure, Result.andThen_ok, List.map_toArray, List.map_cons, List.map_nil, hs, hx, hr]
  exact hK _ _ (h v' w' h2 h3 h5 h6)
end Go.Proofs.Ythbdkhmgopahbaa
set_option linter.unusedVariables false
namespace Go.Proofs.Ythbdkhmgopahbaa
open Go Go.RowKit Go.Deep
theorem heap_alloc_at {b : Nat} (w : World) (o : Obj) (h : b = w.heap.size) : (w.alloc o).heap[b]? = some o := by
  subst h
  exact heap_alloc_new w o
theorem own_set {w : World} {base size n xb o : Nat} {e : TypeId} {v u : Value} {xs : List Value} (h : w.ownsRow base e size v n xs) (hx : ∀ k, v.ownBlock = some k → k ≠ xb) : (w.setCell ⟨xb, o, none⟩ u).ownsRow base e size v n xs :=
  own_block h fun k hk => Below.heap_setCell _ _ _ _ (hx k hk)
/-- The box of a system that is being made, and j upper bounds of the call's own. -/
structure UpS (T m : Nat) (M : Int) (j : Nat) (u : Value) (up : Nat → Int) (W w : World) : Prop where
  tp : Tp T W w
  tape : TapeAt T m w
  tlt : T < W.heap.size
  box : w.heap[W.heap.size + 1]? = some (.cells #[u, .slice none 0 0, .slice none 0 0] 30)
  res : w.heap[W.heap.size]? = some (.cells #[.slice none 0 0, .slice none 0 0, .slice none 0 0] 30)
  O : w.ownsRow (W.heap.size + 1 + 1) 2 1 u j (rowI up j)
  ub : ∀ i, i < j → 0 ≤ up i ∧ up i ≤ M
namespace UpS
variable {T m m' j : Nat} {M : Int} {u : Value} {up : Nat → Int} {W w w' : World}
theorem step (h : UpS T m M j u up W w) (hb : Tp T w w') (ht : TapeAt T m' w') : UpS T m' M j u up W w' := by
  have hT := h.tlt
  exact ⟨h.tp.trans hb, ht, h.tlt, (hb.block _ (Array.getElem?_eq_some_iff.1 h.box).1 (by omega)).trans h.box, (hb.block _ (Array.getElem?_eq_some_iff.1 h.res).1 (by omega)).trans h.res, own_tp h.O hb (by omega), h.ub⟩
theorem below (h : UpS T m M j u up W w) (hb : Below w.heap.size w w') : UpS T m M j u up W w' := h.step (Tp.ofBelow hb) (h.tape.later hb)
theorem next (h : UpS T m M j u up W w) (z : Lat T m' w) : UpS T m' M j u up W z.val := h.step z.tp z.at_
theorem more (h : UpS T m M j u up W w) (hm : m ≤ m') : UpS T m' M j u up W w := { h with tape := h.tape.mono hm }
theorem push {u' : Value} {r : Int} (h : UpS T m M j u up W w) (hO : w'.ownsRow (W.heap.size + 1 + 1) 2 1 u' (j + 1) (rowI up j ++ [.int .i64 r])) (hg : w.grownBy w' u.ownBlock) (hr : 0 ≤ r ∧ r ≤ M) : w'.heap[W.heap.size + 1]? = some (.cells #[u, .slice none 0 0, .slice none 0 0] 30) ∧ UpS T m M (j + 1) u' (updN up j r) W (w'.setCell ⟨W.heap.size + 1, 0, none⟩ u') := by
  have hT := h.tlt
  have hlo : ∀ k, u.ownBlock = some k → W.heap.size + 1 + 1 ≤ k := fun k hk => (h.O.lt k hk).1
  have hlo' : ∀ k, u'.ownBlock = some k → W.heap.size + 1 + 1 ≤ k := fun k hk => (hO.lt k hk).1
  have hbox : w'.heap[W.heap.size + 1]? = some (.cells #[u, .slice none 0 0, .slice none 0 0] 30) := (hg.block _ (Array.getElem?_eq_some_iff.1 h.box).1 (fun e => by have := hlo _ e.symm; omega)).trans h.box
  refine ⟨hbox, (h.tp.grown hg fun k hk => by have := hlo k hk; omega).setCell (.inl (by show W.heap.size ≤ W.heap.size + 1; omega)) _, ?_, h.tlt, ?_, ?_, ?_, fun i hi => ?_⟩
  · refine h.tape.upto (((Below.refl _ _).grown hg h.tape.lt fun k hk => by have := hlo k hk; omega).setCell (by show T + 1 ≤ W.heap.size + 1; omega) _)
  · have := heap_setCell_same w' (W.heap.size + 1) 0 _ _ u' hbox
    rw [this]
    rfl
  · exact (Below.heap_setCell _ _ _ _ (show W.heap.size ≠ W.heap.size + 1 by omega)).trans ((hg.block _ (Array.getElem?_eq_some_iff.1 h.res).1 (fun e => by have := hlo _ e.symm; omega)).trans h.res)
  · rw [rowI_upd]
    exact own_set hO fun k hk => by have := hlo' k hk; omega
  · by_cases hij : i = j
    · subst hij
      rw [updN_at]
      exact hr
    · rw [updN_ne _ _ hij]
      exact h.ub i (by omega)
end UpS
/-- A row of numbers in a block of its own. -/
def RowB (w : World) (b n : Nat) (f : Nat → Int) : Prop := w.heap[b]? = some (.cells (rowI f n).toArray 2)
theorem RowB.ints {w : World} {b n : Nat} {f : Nat → Int} (h : RowB w b n f) (hn : n ≤ 1000) : IntsA w ⟨some ⟨b, 0, none⟩, n, n⟩ f :=
  ⟨Nat.le_refl _, by show n ≤ maxLen; unfold maxLen; omega, .inr ⟨b, 0, rfl, (Array.getElem?_eq_some_iff.1 h).1, fun i hi => by
    rw [cell_of_row _ _ _ _ _ _ h, Nat.zero_add]
    have := rowI_at f (n := n) (i := i) hi
    simpa using this⟩⟩
theorem RowB.cell {w : World} {b n k : Nat} {f : Nat → Int} (h : RowB w b n f) (hk : k < n) : b < w.heap.size ∧ w.frozen? ⟨b, k, none⟩ = false ∧ w.cell? ⟨b, k, none⟩ = some (.int .i64 (f k)) := by
  have h' : w.heap[b]? = some (.cells (rowI f n).toArray 2) := h
  refine ⟨(Array.getElem?_eq_some_iff.1 h).1, by simp [World.frozen?, h'], ?_⟩
  rw [cell_of_row _ _ _ _ _ _ h]
  have := rowI_at f (n := n) (i := k) hk
  simpa using this
theorem RowB.set {w : World} {b n k : Nat} {f : Nat → Int} (h : RowB w b n f) (x : Int) : RowB (w.setCell ⟨b, k, none⟩ (.int .i64 x)) b n (updN f k x) := by
  have := heap_setCell_same w b k _ _ (.int .i64 x) h
  unfold RowB
  rw [this]
  have e := rowI_set f n k x
  have e2 : (fun i => if i = k then x else f i) = updN f k x := by
    funext i
    unfold updN
    rfl
  rw [e2] at e
  rw [← e]
  simp
theorem make_nums (M : Nat) (hN : M ≤ 100000) (W : World) : Sem.run Try.prog (Instr.makeSlice 24 (.int .i64 (M : Int)) (.int .i64 (M : Int))) W = .ok (.slice (some ⟨W.heap.size, 0, none⟩) M M) (W.alloc (.cells (madeCells #[.int .i64 0] M) 2)) := by
  obtain ⟨i0, hi, hz0, hz1, hz2⟩ := info_parts infoI
  have := run_make (P := Try.prog) W 24 2 i0 _ Try.underlying24 hi hz0 .i64 .i64 (M : Int) (M : Int) (by omega) (by omega) (by rw [hz2]; omega) (by omega)
  rw [hz1, show ((M : Int)).toNat = M by omega, Nat.mul_one] at this
  exact this
theorem rowB_made (M : Nat) (W : World) : RowB (W.alloc (.cells (madeCells #[.int .i64 0] M) 2)) W.heap.size M (fun _ => 0) := by
  unfold RowB
  rw [heap_alloc_new]
  have hm : madeCells #[Value.int .i64 0] M = (rowI (fun _ => 0) M).toArray := by
    apply Array.toList_inj.1
    rw [toList_madeCells_one]
    simp only [rowI]
    rw [List.map_const', List.length_range]
  rw [hm]
/-- The box of a system that is being made, its n upper bounds, a point of which j places are drawn. -/
structure PtS (T m n : Nat) (M : Int) (U : Sl) (up : Nat → Int) (bx : Nat) (x : Nat → Int) (W w : World) : Prop where
  tp : Tp T W w
  tape : TapeAt T m w
  tlt : T < W.heap.size
  box : w.heap[W.heap.size + 1]? = some (.cells #[.slice U.a U.len U.cap, .slice none 0 0, .slice none 0 0] 30)
  res : w.heap[W.heap.size]? = some (.cells #[.slice none 0 0, .slice none 0 0, .slice none 0 0] 30)
  ui : IntsA w U up
  un : U.len = n
  ub : ∀ i, i < n → 0 ≤ up i ∧ up i ≤ M
  uf : ∀ c o, U.a = some ⟨c, o, none⟩ → c ≠ T ∧ c ≠ W.heap.size + 1 ∧ c ≠ bx
  xr : RowB w bx n x
  xlo : W.heap.size + 1 < bx
  xb : ∀ i, i < n → 0 ≤ x i ∧ x i ≤ M
namespace PtS
variable {T m m' n bx : Nat} {M : Int} {U : Sl} {up x : Nat → Int} {W w w' : World}
theorem step (h : PtS T m n M U up bx x W w) (hb : Tp T w w') (ht : TapeAt T m' w') : PtS T m' n M U up bx x W w' := by
  have hT := h.tlt
  have hx := h.xlo
  exact ⟨h.tp.trans hb, ht, h.tlt, (hb.block _ (Array.getElem?_eq_some_iff.1 h.box).1 (by omega)).trans h.box, (hb.block _ (Array.getElem?_eq_some_iff.1 h.res).1 (by omega)).trans h.res,
    h.ui.tp (fun c o hc => (h.uf c o hc).1) hb, h.un, h.ub, h.uf, (hb.block _ (Array.getElem?_eq_some_iff.1 h.xr).1 (by omega)).trans h.xr, h.xlo, h.xb⟩
theorem next (h : PtS T m n M U up bx x W w) (z : Lat T m' w) : PtS T m' n M U up bx x W z.val := h.step z.tp z.at_
theorem more (h : PtS T m n M U up bx x W w) (hm : m ≤ m') : PtS T m' n M U up bx x W w := { h with tape := h.tape.mono hm }
theorem set {j : Nat} {r : Int} (h : PtS T m n M U up bx x W w) (hr : 0 ≤ r ∧ r ≤ M) : PtS T m n M U up bx (updN x j r) W (w.setCell ⟨bx, j, none⟩ (.int .i64 r)) := by
  have hT := h.tlt
  have hx := h.xlo
  have hk : ∀ k, k ≠ bx → (w.setCell ⟨bx, j, none⟩ (.int .i64 r)).heap[k]? = w.heap[k]? := fun k hk => Below.heap_setCell _ _ _ _ hk
  refine ⟨h.tp.setCell (.inl (by show W.heap.size ≤ bx; omega)) _, h.tape.upto ((Below.refl _ _).setCell (by show T + 1 ≤ bx; omega) _), h.tlt, (hk _ (by omega)).trans h.box, (hk _ (by omega)).trans h.res, h.ui.keep (by simp [World.setCell]) (fun c o hc _ => hk c (h.uf c o hc).2.2), h.un, h.ub, h.uf, h.xr.set r, h.xlo, fun i hi => ?_⟩
  by_cases hij : i = j
  · subst hij
    rw [updN_at]
    exact hr
  · rw [updN_ne _ _ hij]
    exact h.xb i hi
/-- The box without rows. -/
theorem start (h : PtS T m n M U up bx x W w) (hn : 0 < n) (hn2 : n ≤ 1000) (L : Int) : BoxS T m (W.heap.size + 1) n 0 M L (.slice none 0 0) (.slice none 0 0) U ⟨some ⟨bx, 0, none⟩, n, n⟩ up x (fun _ => ⟨none, 0, 0⟩) (fun _ _ => 0) (fun _ => 0) W w := by
  have hT := h.tlt
  have hx := h.xlo
  refine ⟨h.tp, h.tape, h.tlt, rfl, hn, h.box, h.res, h.ui, h.un, h.ub, fun c o hc => ⟨(h.uf c o hc).1, (h.uf c o hc).2.1, by simp [Value.ownBlock], by simp [Value.ownBlock]⟩, h.xr.ints hn2, rfl, h.xb, fun c o hc => ?_, World.ownsRow_nil _ _ _ 1, World.ownsRow_nil _ _ _ 1, fun i hi => absurd hi (Nat.not_lt_zero _), fun i hi => absurd hi (Nat.not_lt_zero _), fun i hi => absurd hi (Nat.not_lt_zero _)⟩
  simp only [Option.some.injEq, Addr.mk.injEq, and_true] at hc
  exact ⟨by omega, by omega, by simp [Value.ownBlock], by simp [Value.ownBlock]⟩
end PtS
end Go.Proofs.Ythbdkhmgopahbaa
