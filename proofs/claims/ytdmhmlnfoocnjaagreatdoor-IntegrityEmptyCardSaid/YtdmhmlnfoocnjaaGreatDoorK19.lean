/-
  A column of a type, or a constant, that the tape chooses.
-/
import Derived.Test.YtdmhmlnfoocnjaaGreatDoorK18
set_option linter.unusedVariables false
namespace Go.Proofs.YtdmhmlnfoocnjaaGreatDoor
open Go Go.RowKit Go.Deep
theorem IntsAt.at_ {T : Nat} {w : World} {a : Option Addr} {len cap : Nat} {l : List Int} (h : IntsAt T w a len cap l) {i : Nat} (hi : i < len) : ∃ b off, a = some ⟨b, off, none⟩ ∧ b ≠ T ∧ b < w.heap.size ∧ w.cell? ⟨b, off + i, none⟩ = some (.int .i64 (l.getD i 0)) := by
  obtain ⟨b, off, rfl, hT, hb, hc⟩ := h.2.2.2.resolve_left (by omega)
  exact ⟨b, off, rfl, by omega, hb, hc i hi⟩
theorem IntsAt.le {T : Nat} {w : World} {a : Option Addr} {len cap : Nat} {l : List Int} (h : IntsAt T w a len cap l) : len ≤ cap := h.2.1
theorem IntsAt.max {T : Nat} {w : World} {a : Option Addr} {len cap : Nat} {l : List Int} (h : IntsAt T w a len cap l) : cap ≤ maxLen := h.2.2.1
theorem six {W : World} {b : Nat} {a0 a1 a2 a3 a4 a5 : Value} {t : TypeId} (h : W.heap[b]? = some (.cells #[a0, a1, a2, a3, a4, a5] t)) :
    b < W.heap.size ∧ W.frozen? ⟨b, 0, none⟩ = false ∧ W.frozen? ⟨b, 1, none⟩ = false ∧ W.frozen? ⟨b, 2, none⟩ = false ∧ W.frozen? ⟨b, 3, none⟩ = false ∧ W.frozen? ⟨b, 4, none⟩ = false ∧ W.frozen? ⟨b, 5, none⟩ = false ∧
    W.cell? ⟨b, 0, none⟩ = some a0 ∧ W.cell? ⟨b, 1, none⟩ = some a1 ∧ W.cell? ⟨b, 2, none⟩ = some a2 ∧ W.cell? ⟨b, 3, none⟩ = some a3 ∧ W.cell? ⟨b, 4, none⟩ = some a4 ∧ W.cell? ⟨b, 5, none⟩ = some a5 := by
  refine ⟨(Array.getElem?_eq_some_iff.1 h).1, free_of_row h _, free_of_row h _, free_of_row h _, free_of_row h _, free_of_row h _, free_of_row h _, ?_, ?_, ?_, ?_, ?_, ?_⟩
  all_goals
    rw [cell_of_row _ _ _ _ _ (0, 0) h]
    rfl
theorem getI_mem {l : List Int} {i : Nat} (h : i < l.length) : l.getD i 0 ∈ l := by
  simp [List.getD, h]
def MadeBy (T m d : Nat) (ty : List Int) (k : Int) (w : World) (r : Ending) (w' : World) : Prop :=
  ∃ (e : Ex) (a : Option Addr) (len cap : Nat), r = .returned (.agg #[.int .i64 e.op, .int .i64 e.ty, .int .i64 e.num, .string e.text, .int .i64 e.col, .slice a len cap]) ∧ Made ty d k e ∧ e.fine ∧ Kids w' (fun b => w.heap.size ≤ b) a len cap e.kids ∧ Tq T m w w'
theorem wf_small {n : Int} (h1 : -1000000000000 ≤ n) (h2 : n ≤ 1000000000000) : (Lit.int .i64 n).wf = true := by
  have h3 : IntKind.i64.min ≤ n := Int.le_trans (by decide) h1
  simp [Lit.wf]
  exact ⟨h3, by omega⟩
theorem const_fine (k : Int) (hk : IsTy k) (v : Vl) (hv : okV k v) : (Ex.mk (cOp v.k) (cTy v.k k) (cNum v.k v.n) (cTxt v.k v.s) 0 []).fine := by
  have hs := okV_size hv
  obtain ⟨h1, h2⟩ := hv
  have hk' : 1 ≤ k ∧ k ≤ 3 := by rcases hk with rfl | rfl | rfl <;> omega
  have hn : -1000000000000 ≤ v.n ∧ v.n ≤ 1000000000000 := by
    unfold vB at h2
    split at h2
    · simp at h2; omega
    · split at h2
      · simp at h2; omega
      · split at h2
        · simp at h2; omega
        · split at h2
          · simp at h2; omega
          · exact absurd h2 Bool.false_ne_true
  refine ⟨wf_small ?_ ?_, wf_small ?_ ?_, wf_small ?_ ?_, ?_, wf_small (n := 0) (by decide) (by decide)⟩
  · show _ ≤ cOp v.k; unfold cOp; split <;> (try split) <;> (try split) <;> omega
  · show cOp v.k ≤ _; unfold cOp; split <;> (try split) <;> (try split) <;> omega
  · show _ ≤ cTy v.k k; unfold cTy; split <;> (try split) <;> (try split) <;> omega
  · show cTy v.k k ≤ _; unfold cTy; split <;> (try split) <;> (try split) <;> omega
  · show _ ≤ cNum v.k v.n; unfold cNum; split <;> (try split) <;> omega
  · show cNum v.k v.n ≤ _; unfold cNum; split <;> (try split) <;> omega
  · show (cTxt v.k v.s).size ≤ maxLen
    unfold cTxt maxLen
    split
    · omega
    · show 0 ≤ _; omega
set_option maxHeartbeats 4000000 in
set_option maxRecDepth 20000 in
theorem pick_calls (d T m : Nat) (ty : List Int) (k : Int) (a : Option Addr) (len cap : Nat) (w : World) (h : TapeAt T m w) (ht : IntsAt T w a len cap ty) (hk : IsTy k) (hm : m ≤ 2 ^ 60) (hlen : len ≤ 1000) :
    Calls Tryz.prog 41 #[.pointer (some ⟨T, 0, none⟩), .slice a len cap, .int .i64 k] w fun r w' => MadeBy T (m + 2) d ty k w r w' := by
  have hT := h.lt
  obtain ⟨i0, hi, hz0, hz1, hz2⟩ := info_parts infoI
  have hle := ht.2.1
  have hmax := ht.2.2.1
  have hlt0 := ht.1
  unfold maxLen at hmax
  have H := Lib.hid h
  have HT := Lib.hid ht
  have HK := Lib.hid hk
  have HL0 := Lib.hid hlt0
  clear h ht hk hlt0
  go_enter Tryz.func41, Tryz.ntmps41
  go_wp2_with fail
  go_loopw [7, 8] (fun u i wr => ∃ (j : Nat) (l : List Int), j ≤ len ∧ i = .int .i64 j ∧ l.length ≤ j ∧ (∀ c ∈ l, ∃ n : Nat, c = n ∧ n < len ∧ ty.getD n 0 = k) ∧ wr.ownsRow (w.heap.size + 1) 3 1 u l.length (flatI l) ∧ Cls (w.alloc (.cells #[.int .i64 0, .int .i64 0, .int .i64 0, .string ⟨#[]⟩, .int .i64 0, .slice none 0 0] 64)) wr) (fun _ i _ => len - (intOf i).toNat)
  case atStart => exact ⟨0, [], by omega, rfl, by simp, fun c h => by simp at h, World.ownsRow_nil _ _ _ 1, Cls.of (Below.refl _ _)⟩
  case round =>
    obtain ⟨j, l, hj, rfl, hl, hok, hown, y, rfl⟩ := hrel
    have HO := Lib.hid hown
    have HC := Lib.hid hok
    clear hown hok
    have ys := y.size
    have ys2 : w.heap.size + 1 ≤ y.val.heap.size := by simpa using ys
    by_cases hlt : j < len
    · obtain ⟨b, off, rfl, hb1, hb2, hc⟩ := HT.out.2.2.2.resolve_left (by omega)
      have q := hc j hlt
      have hb3 : b < w.heap.size + 1 := by omega
      clear hc
      generalize hkj : ty.getD j 0 = kj at q
      have HKJ := Lib.hid hkj
      clear hkj
      by_cases hkk : kj = k
      · have d2 : (kj == k) = true := by simpa using hkk
        have HKK := Lib.hid hkk
        clear hkk
        go_wp2_with (at_builtin; refine wpList_append_own_at _ rfl _ _ 22 rfl (w.heap.size + 1) 3 i0 (.int .i64 0) 1 8 Tryz.underlying22 hi hz0 hz1 hz2 rfl (by decide) _ l.length (flatI l) rfl (ownV_later HO.out (by repeat first|with_reducible exact Below.refl _ _|with_reducible refine Below.setCell ?_ (by first|omega|(simp;done)|(simp;omega)) _|with_reducible refine Below.alloc ?_ (by first|omega|(simp;done)|(simp;omega)) _|with_reducible refine Below.drew ?_|with_reducible refine Ext.on _ ?_ (by first|omega|(simp;done)|(simp;omega)))) ⟨y.val.heap.size, 0, none⟩ 1 1 [.int .i64 (j : Int)] rfl rfl (cells_new' _ _ _) (int_one _) (by unfold maxLen; omega) (by omega) (by simp; omega) ?_; intro v3 w3 hown3 hg3 _ hat3; have HO3 := Lib.hid hown3; have HG := Lib.hid hg3; have HA := Lib.hid hat3; clear hown3 hg3 hat3)
        go_roundw
        case rel =>
          refine ⟨j + 1, l ++ [(j : Int)], by omega, by go_num, by simp; omega, ?_, ?_, Cls.of (Below.grown (w := y.val.alloc _) ?_ HG.out (by simp at ys ⊢; omega) (fun k hk => by have := (HO.out.lt k hk).1; simp; omega))⟩
          · intro c hc
            rcases List.mem_append.1 hc with hc | hc
            · obtain ⟨n, h1, h2, h3⟩ := HC.out c hc; exact ⟨n, h1, h2, h3⟩
            · simp only [List.mem_cons, List.not_mem_nil, or_false] at hc
              exact ⟨j, hc, hlt, by rw [HKJ.out, HKK.out]⟩
          · rw [List.length_append, flatI_append]; exact HO3.out
          · repeat first|with_reducible exact Below.refl _ _|with_reducible refine Below.setCell ?_ (by first|omega|(simp;done)|(simp;omega)) _|with_reducible refine Below.alloc ?_ (by first|omega|(simp;done)|(simp;omega)) _|with_reducible refine Below.drew ?_|with_reducible refine Ext.on _ ?_ (by first|omega|(simp;done)|(simp;omega))
        case measure => simp [intOf]; omega
      · have d2 : (kj == k) = false := by simpa using hkk
        clear hkk
        go_wp2_with fail
        go_roundw
        case rel => exact ⟨j + 1, l, by omega, by go_num, by omega, HC.out, HO.out, y, rfl⟩
        case measure => simp [intOf]; omega
    · have hT2 : T < w.heap.size + 1 := by omega
      obtain ⟨a3, cap3, hu, hat⟩ := intsAt_of HO.out hT2
      have HT3 := Lib.hid hat
      clear hat
      subst hu
      have HB : Hid (y.val.heap[w.heap.size]? = some (.cells #[.int .i64 0, .int .i64 0, .int .i64 0, .string ⟨#[]⟩, .int .i64 0, .slice none 0 0] 64)) := Lib.hid ((y.below.block _ (by simp)).trans (heap_alloc_new w _))
      have hTn : w.heap.size ≠ T := by omega
      go_wp2_with (first | (go_at_call 21; ((with_reducible refine (Next_calls T m _ _ ((H.out.later ((Below.refl _ _).alloc (Nat.le_refl _) _)).later y.below) (by omega) (by omega) (by omega)).mono ?_); rintro e1 w1 hq; obtain ⟨r, rfl, hr, z, rfl⟩ := hq; have zs := z.size; obtain ⟨b0, f0, f1, f2, f3, f4, f5, c0, c1, c2, c3, c4, c5⟩ := six ((z.tp.block _ (by omega) hTn).trans HB.out); by_cases hrl : r < l.length; all_goals try (obtain ⟨b, off, rfl, hbT, hb2, q⟩ := HT3.out.at_ hrl; have hg := Lib.hid (HC.out _ (getI_mem hrl)); have hle3 := HT3.out.le; have hmax3 := HT3.out.max; unfold maxLen at hmax3; generalize l.getD r 0 = c at q hg))) | (go_at_call 69; ((with_reducible refine (Value_calls T (m + 1) k _ z.at_ HK.out (by omega)).mono ?_); rintro e1 w1 hq; obtain ⟨v, hv, rfl, z2, rfl⟩ := hq; have HV := Lib.hid hv; clear hv; have z2s := z2.size)) | (go_at_call 67; ((with_reducible refine (rConstant_calls v.k v.n v.s k _).mono ?_); rintro e1 w1 hq; obtain ⟨rfl, t, rfl⟩ := hq; have ts := t.size; clear f0 f1 f2 f3 f4 f5 c0 c1 c2 c3 c4 c5; obtain ⟨b02, f0, f1, f2, f3, f4, f5, c0, c1, c2, c3, c4, c5⟩ := six ((t.below.block w.heap.size (by omega)).trans ((z2.tp.block _ (by omega) hTn).trans ((z.tp.block _ (by omega) hTn).trans HB.out))))))
      · refine ret_ex rfl ?_
        simp [results, Tryz.results41, go_sem, c0, c1, c2, c3, c4, c5]
        obtain ⟨n, rfl, hn1, hn2⟩ := hg.out
        refine ⟨.mk 5 0 0 ⟨#[]⟩ n [], none, 0, 0, rfl, .col k n (by have := HL0.out; omega) hn2, ⟨wf_small (n := 5) (by decide) (by decide), wf_small (n := 0) (by decide) (by decide), wf_small (n := 0) (by decide) (by decide), Nat.zero_le _, wf_small (n := (n : Int)) (by omega) (by omega)⟩, .none, Tq.of ?_ ((z.at_.mono (by omega)).upto ?_)⟩
        · repeat first|with_reducible exact Tp.refl _ _|with_reducible refine Tp.setCell ?_ (by first|(left;omega)|(left;simp;done)|(left;simp;omega)) _|with_reducible refine Tp.alloc ?_ _|with_reducible refine Tp.drew ?_|with_reducible refine Lat.on _ ?_|with_reducible refine Tp.ext ?_ _
        · repeat first|with_reducible exact Below.refl _ _|with_reducible refine Below.setCell ?_ (by first|omega|(simp;done)|(simp;omega)) _|with_reducible refine Below.alloc ?_ (by first|omega|(simp;done)|(simp;omega)) _|with_reducible refine Below.drew ?_|with_reducible refine Ext.on _ ?_ (by first|omega|(simp;done)|(simp;omega))
      · refine ret_ex rfl ?_
        simp [results, Tryz.results41, go_sem, c0, c1, c2, c3, c4, c5]
        refine ⟨.mk (cOp v.k) (cTy v.k k) (cNum v.k v.n) (cTxt v.k v.s) 0 [], none, 0, 0, rfl, .const k v HV.out, const_fine k HK.out v HV.out, .none, Tq.of ?_ (z2.at_.upto ?_)⟩
        · repeat first|with_reducible exact Tp.refl _ _|with_reducible refine Tp.setCell ?_ (by first|(left;omega)|(left;simp;done)|(left;simp;omega)) _|with_reducible refine Tp.alloc ?_ _|with_reducible refine Tp.drew ?_|with_reducible refine Lat.on _ ?_|with_reducible refine Tp.ext ?_ _
        · repeat first|with_reducible exact Below.refl _ _|with_reducible refine Below.setCell ?_ (by first|omega|(simp;done)|(simp;omega)) _|with_reducible refine Below.alloc ?_ (by first|omega|(simp;done)|(simp;omega)) _|with_reducible refine Below.drew ?_|with_reducible refine Ext.on _ ?_ (by first|omega|(simp;done)|(simp;omega))
end Go.Proofs.YtdmhmlnfoocnjaaGreatDoor
set_option linter.unusedVariables false
namespace Go.Proofs.YtdmhmlnfoocnjaaGreatDoor
open Go Go.RowKit Go.Deep
structure Up (lo : Nat) (w w' : World) : Prop where
  size : w.heap.size ≤ w'.heap.size
  block : ∀ k, lo ≤ k → k < w.heap.size → w'.heap[k]? = w.heap[k]?
namespace Up
variable {lo : Nat} {w0 w : World}
theorem refl (lo : Nat) (w : World) : Up lo w w := ⟨Nat.le_refl _, fun _ _ _ => rfl⟩
theorem trans {a b c : World} (h : Up lo a b) (k : Up lo b c) : Up lo a c := ⟨Nat.le_trans h.size k.size, fun i h1 h2 => (k.block i h1 (Nat.lt_of_lt_of_le h2 h.size)).trans (h.block i h1 h2)⟩
theorem ext (h : Up lo w0 w) (x : Ext w) : Up lo w0 x.val := h.trans ⟨x.size, fun k _ h2 => x.below.block k h2⟩
theorem alloc (h : Up lo w0 w) (o : Obj) : Up lo w0 (w.alloc o) := h.trans ⟨by simp, fun k _ h2 => Below.heap_alloc _ _ _ h2⟩
theorem drew (h : Up lo w0 w) : Up lo w0 w.drew := h.trans ⟨Nat.le_refl _, fun _ _ _ => rfl⟩
theorem setCell (h : Up lo w0 w) {p : Addr} (hp : p.block < lo ∨ w0.heap.size ≤ p.block) (u : Value) : Up lo w0 (w.setCell p u) :=
  ⟨by simpa [World.setCell] using h.size, fun k h1 h2 => (Below.heap_setCell _ _ _ _ (by rcases hp with hp | hp <;> omega)).trans (h.block k h1 h2)⟩
theorem lat {T m : Nat} (z : Lat T m w) (h : Up lo w0 w) (hT : T < lo) : Up lo w0 z.val := h.trans ⟨z.size, fun k h1 h2 => z.tp.block k h2 (by omega)⟩
theorem grown {w' : World} {row : Option Nat} (h : Up lo w0 w) (hg : w.grownBy w' row) (hr : ∀ k, row = some k → k < lo ∨ w0.heap.size ≤ k) : Up lo w0 w' :=
  ⟨Nat.le_trans h.size hg.size, fun k h1 h2 => (hg.block k (Nat.lt_of_lt_of_le h2 h.size) (fun e => by have := hr k e.symm; omega)).trans (h.block k h1 h2)⟩
end Up
theorem Kids.up {lo : Nat} {w w' : World} {a : Option Addr} {len cap : Nat} {l : List Ex} (h : Kids w (fun b => lo ≤ b) a len cap l) (hu : Up lo w w') : Kids w' (fun b => lo ≤ b) a len cap l :=
  h.carry hu.size fun b hlt hok => ⟨hok, hu.block b hok hlt⟩
theorem Kids.low {lo lo' : Nat} {w : World} {a : Option Addr} {len cap : Nat} {l : List Ex} (h : Kids w (fun b => lo ≤ b) a len cap l) (hl : lo' ≤ lo) : Kids w (fun b => lo' ≤ b) a len cap l :=
  h.carry (Nat.le_refl _) fun b hlt hok => ⟨Nat.le_trans hl hok, rfl⟩
theorem kids_lit {W : World} {lo g : Nat} {rs : List Rec} (h : W.heap[g]? = some (.cells (flatR rs).toArray 64)) (hg : lo ≤ g) (hm : rs.length ≤ maxLen)
    (hr : ∀ r ∈ rs, r.e.fine ∧ Kids W (fun b => lo ≤ b) r.a r.len r.cap r.e.kids) : Kids W (fun b => lo ≤ b) (some ⟨g, 0, none⟩) rs.length rs.length (rs.map Rec.e) := by
  have hr' : ∀ i, i < rs.length → rs.getD i Rec.z ∈ rs := fun i hi => by simp [List.getD, hi]
  have he : ∀ i, i < rs.length → (rs.map Rec.e).getD i Ex.z = (rs.getD i Rec.z).e := fun i hi => by simp [List.getD, hi]
  refine .mk _ _ _ _ (fun i => (rs.getD i Rec.z).a) (fun i => (rs.getD i Rec.z).len) (fun i => (rs.getD i Rec.z).cap) (by simp) (Nat.le_refl _) hm (fun h => by cases h) (fun i hi => ?_) (fun i hi => by rw [he i hi]; exact (hr _ (hr' i hi)).1) (fun i hi => by rw [he i hi]; exact (hr _ (hr' i hi)).2)
  rw [he i hi]
  obtain ⟨f0, f1, f2, f3, f4, f5⟩ := flatR_at rs i hi
  have hc : ∀ j, W.cell? ⟨g, 0 + j, none⟩ = (flatR rs)[j]? := fun j => by
    rw [cell_of_row _ _ _ _ _ (0, 0) h, Nat.zero_add]; simp
  exact ⟨g, 0, rfl, (Array.getElem?_eq_some_iff.1 h).1, hg, by rw [hc]; exact f0, by rw [Nat.add_assoc, hc]; exact f1, by rw [Nat.add_assoc, hc]; exact f2, by rw [Nat.add_assoc, hc]; exact f3, by rw [Nat.add_assoc, hc]; exact f4, by rw [Nat.add_assoc, hc]; exact f5⟩
theorem node_end {T M : Nat} {w0 W : World} {R : Nat} {rs : List Rec} {u0 u1 u2 u3 u4 u5 : Value} (hA : Tq T M w0 W) (hR : w0.heap.size ≤ R) (hT : T < R) (hRW : R < W.heap.size) (hm : rs.length ≤ maxLen)
    (hr : ∀ r ∈ rs, r.e.fine ∧ Kids W (fun b => R + 1 ≤ b) r.a r.len r.cap r.e.kids) :
    Kids (((((((W.setCell ⟨R, 0, none⟩ u0).setCell ⟨R, 1, none⟩ u1).setCell ⟨R, 2, none⟩ u2).setCell ⟨R, 3, none⟩ u3).setCell ⟨R, 4, none⟩ u4).setCell ⟨R, 5, none⟩ u5).alloc (.cells (flatR rs).toArray 64)) (fun b => w0.heap.size ≤ b) (some ⟨W.heap.size, 0, none⟩) rs.length rs.length (rs.map Rec.e) ∧
    Tq T M w0 (((((((W.setCell ⟨R, 0, none⟩ u0).setCell ⟨R, 1, none⟩ u1).setCell ⟨R, 2, none⟩ u2).setCell ⟨R, 3, none⟩ u3).setCell ⟨R, 4, none⟩ u4).setCell ⟨R, 5, none⟩ u5).alloc (.cells (flatR rs).toArray 64)) := by
  have hS : ∃ S, S = (((((W.setCell ⟨R, 0, none⟩ u0).setCell ⟨R, 1, none⟩ u1).setCell ⟨R, 2, none⟩ u2).setCell ⟨R, 3, none⟩ u3).setCell ⟨R, 4, none⟩ u4).setCell ⟨R, 5, none⟩ u5 ∧ S.heap.size = W.heap.size ∧ Up (R + 1) W S ∧ Below R W S ∧ Tp T w0 S := by
    obtain ⟨x, rfl⟩ := hA
    refine ⟨_, rfl, by simp [World.setCell], ?_, ?_, ?_⟩
    · repeat (with_reducible refine Up.setCell ?_ (.inl (by simp)) _)
      exact Up.refl _ _
    · repeat (with_reducible refine Below.setCell ?_ (by simp) _)
      exact Below.refl _ _
    · repeat (with_reducible refine Tp.setCell ?_ (.inl (by simpa using hR)) _)
      exact x.tp
  obtain ⟨S, hS1, hS2, hS3, hS4, hS5⟩ := hS
  rw [← hS1, ← hS2]
  have hn := heap_alloc_new S (.cells (flatR rs).toArray 64)
  obtain ⟨x, rfl⟩ := hA
  have hxT := x.at_.lt
  refine ⟨Kids.low (lo := R + 1) ?_ (by omega), Tq.of (hS5.alloc _) (x.at_.upto ?_)⟩
  · exact kids_lit hn (by omega) hm (fun r hr' => ⟨(hr r hr').1, (hr r hr').2.up (hS3.alloc _)⟩)
  · exact (hS4.mono (by omega)).alloc (by omega) _
def RowK (w : World) (ok : Nat → Prop) (base : Nat) (v : Value) (rs : List Rec) : Prop :=
  w.ownsRow base 64 6 v rs.length (flatR rs) ∧ ∀ r ∈ rs, r.e.fine ∧ Kids w (fun b => ok b ∧ v.ownBlock ≠ some b) r.a r.len r.cap r.e.kids
theorem own_keep {w w' : World} {base size n : Nat} {e : TypeId} {v : Value} {xs : List Value} (h : w.ownsRow base e size v n xs) (hb : ∀ k, v.ownBlock = some k → w'.heap[k]? = w.heap[k]?) : w'.ownsRow base e size v n xs := by
  refine ⟨h.1, h.2.imp id ?_⟩
  rintro ⟨g, cap, cur, rfl, hg, hh, rest⟩
  exact ⟨g, cap, cur, rfl, hg, (hb g rfl).trans hh, rest⟩
theorem own_low {w : World} {base base' size n : Nat} {e : TypeId} {v : Value} {xs : List Value} (h : w.ownsRow base e size v n xs) (hb : base' ≤ base) : w.ownsRow base' e size v n xs := by
  refine ⟨h.1, h.2.imp id ?_⟩
  rintro ⟨g, cap, cur, hv, hg, rest⟩
  exact ⟨g, cap, cur, hv, Nat.le_trans hb hg, rest⟩
theorem RowK.carry {w w' : World} {ok ok' : Nat → Prop} {base base' : Nat} {v : Value} {rs : List Rec} (h : RowK w ok base v rs) (hbase : base' ≤ base) (hs : w.heap.size ≤ w'.heap.size) (hg : ∀ k, v.ownBlock = some k → w'.heap[k]? = w.heap[k]?)
    (hb : ∀ b, b < w.heap.size → ok b → v.ownBlock ≠ some b → ok' b ∧ w'.heap[b]? = w.heap[b]?) : RowK w' ok' base' v rs :=
  ⟨own_low (own_keep h.1 hg) hbase, fun r hr => ⟨(h.2 r hr).1, (h.2 r hr).2.carry hs fun b hlt ⟨h1, h2⟩ => ⟨⟨(hb b hlt h1 h2).1, h2⟩, (hb b hlt h1 h2).2⟩⟩⟩
theorem RowK.push {w1 w3 : World} {ok : Nat → Prop} {base : Nat} {v v' : Value} {rs : List Rec} {r : Rec} {o : Obj} (h : RowK w1 ok base v rs) (hf : r.e.fine) (hk : Kids w1 (fun b => ok b ∧ v.ownBlock ≠ some b) r.a r.len r.cap r.e.kids)
    (hown : w3.ownsRow base 64 6 v' (rs.length + 1) (flatR rs ++ r.cells)) (hg : (w1.alloc o).grownBy w3 v.ownBlock) (hat : v'.ownBlock = v.ownBlock ∨ v'.ownBlock = some (w1.alloc o).heap.size) : RowK w3 ok base v' (rs ++ [r]) := by
  have hs2 : (w1.alloc o).heap.size = w1.heap.size + 1 := by simp
  have hs3 := hg.size
  have hblk : ∀ b, b < w1.heap.size → v.ownBlock ≠ some b → v'.ownBlock ≠ some b ∧ w3.heap[b]? = w1.heap[b]? := fun b hlt' hne => by
    refine ⟨?_, (hg.block b (by omega) (fun e => hne e.symm)).trans (Below.heap_alloc _ _ _ hlt')⟩
    rcases hat with e | e <;> rw [e]
    · exact hne
    · rw [hs2]; intro e; injection e; omega
  refine ⟨?_, fun q hq => ?_⟩
  · rw [List.length_append, flatR_append]
    simpa [flatR] using hown
  · rcases List.mem_append.1 hq with hq | hq
    · obtain ⟨f, hk0⟩ := h.2 q hq
      refine ⟨f, hk0.carry (by omega) fun b hlt' ⟨hb1, hb2⟩ => ?_⟩
      obtain ⟨g1, g2⟩ := hblk b hlt' hb2
      exact ⟨⟨hb1, g1⟩, g2⟩
    · obtain rfl : q = r := by simpa using hq
      refine ⟨hf, hk.carry (by omega) fun b hlt' ⟨hb1, hb2⟩ => ?_⟩
      obtain ⟨g1, g2⟩ := hblk b hlt' hb2
      exact ⟨⟨hb1, g1⟩, g2⟩
theorem RowK.kids {w : World} {ok ok' : Nat → Prop} {base : Nat} {v : Value} {rs : List Rec} (h : RowK w ok base v rs) (hg : ∀ g, v.ownBlock = some g → ok' g) (h01 : ∀ b, ok b → ok' b) : ∃ a cap, v = .slice a rs.length cap ∧ Kids w ok' a rs.length cap (rs.map Rec.e) := by
  have hr : ∀ i, i < rs.length → rs.getD i Rec.z ∈ rs := fun i hi => by simp [List.getD, hi]
  have he : ∀ i, i < rs.length → (rs.map Rec.e).getD i Ex.z = (rs.getD i Rec.z).e := fun i hi => by simp [List.getD, hi]
  have hin : ∀ i, i < rs.length → (rs.getD i Rec.z).e.fine ∧ Kids w ok' (rs.getD i Rec.z).a (rs.getD i Rec.z).len (rs.getD i Rec.z).cap (rs.getD i Rec.z).e.kids := fun i hi => by
    obtain ⟨f, hk⟩ := h.2 _ (hr i hi)
    exact ⟨f, hk.carry (Nat.le_refl _) fun b _ ⟨h1, _⟩ => ⟨h01 b h1, rfl⟩⟩
  rcases h.1.2 with ⟨rfl, h0⟩ | ⟨g, cap, cur, rfl, hb, hh, hn, hc, hs, ht⟩
  · have : rs = [] := List.eq_nil_of_length_eq_zero h0
    subst this
    exact ⟨none, 0, rfl, .none⟩
  · refine ⟨some ⟨g, 0, none⟩, cap, rfl, .mk _ _ _ _ (fun i => (rs.getD i Rec.z).a) (fun i => (rs.getD i Rec.z).len) (fun i => (rs.getD i Rec.z).cap) (by simp) hn hc (fun h => by cases h) (fun i hi => ?_) (fun i hi => by rw [he i hi]; exact (hin i hi).1) (fun i hi => by rw [he i hi]; exact (hin i hi).2)⟩
    rw [he i hi]
    have hcell := World.ownsRow.cells h.1 (g := g) rfl
    have hadd : ∀ j, (⟨g, 0, none⟩ : Addr).add j = ⟨g, 0 + j, none⟩ := fun j => by unfold Addr.add; split <;> simp_all
    obtain ⟨f0, f1, f2, f3, f4, f5⟩ := flatR_at rs i hi
    have c0 := hcell _ _ f0
    have c1 := hcell _ _ f1
    have c2 := hcell _ _ f2
    have c3 := hcell _ _ f3
    have c4 := hcell _ _ f4
    have c5 := hcell _ _ f5
    rw [hadd] at c0 c1 c2 c3 c4 c5
    exact ⟨g, 0, rfl, (Array.getElem?_eq_some_iff.1 hh).1, hg g rfl, c0, c1, c2, c3, c4, c5⟩
theorem node_row {T M : Nat} {w0 W : World} {R : Nat} {rs : List Rec} {u0 u1 u2 u3 u4 u5 : Value} (hA : Tq T M w0 W) (hR : w0.heap.size ≤ R) (hRW : R < W.heap.size) (hm : rs.length ≤ maxLen)
    (hr : ∀ r ∈ rs, r.e.fine ∧ Kids W (fun b => R + 1 ≤ b) r.a r.len r.cap r.e.kids) :
    RowK (((((((W.setCell ⟨R, 0, none⟩ u0).setCell ⟨R, 1, none⟩ u1).setCell ⟨R, 2, none⟩ u2).setCell ⟨R, 3, none⟩ u3).setCell ⟨R, 4, none⟩ u4).setCell ⟨R, 5, none⟩ u5).alloc (.cells (flatR rs).toArray 64)) (fun b => R + 1 ≤ b) w0.heap.size (.slice (some ⟨W.heap.size, 0, none⟩) rs.length rs.length) rs := by
  have hS : ∃ S, S = (((((W.setCell ⟨R, 0, none⟩ u0).setCell ⟨R, 1, none⟩ u1).setCell ⟨R, 2, none⟩ u2).setCell ⟨R, 3, none⟩ u3).setCell ⟨R, 4, none⟩ u4).setCell ⟨R, 5, none⟩ u5 ∧ S.heap.size = W.heap.size ∧ Up (R + 1) W S := by
    refine ⟨_, rfl, by simp [World.setCell], ?_⟩
    repeat (with_reducible refine Up.setCell ?_ (.inl (by simp)) _)
    exact Up.refl _ _
  obtain ⟨S, hS1, hS2, hS3⟩ := hS
  rw [← hS1, ← hS2]
  have hn := heap_alloc_new S (.cells (flatR rs).toArray 64)
  refine ⟨⟨flatR_length rs, .inr ⟨S.heap.size, rs.length, (flatR rs).toArray, rfl, by omega, hn, Nat.le_refl _, hm, by simp [flatR_length], ?_⟩⟩, fun r hr' => ⟨(hr r hr').1, (hr r hr').2.carry (by simp; omega) fun b hlt hb => ⟨⟨hb, ?_⟩, (Below.heap_alloc _ _ _ (by omega)).trans (hS3.block b hb hlt)⟩⟩⟩
  · rw [List.take_of_length_le]
    simp [flatR_length]
  · simp [Value.ownBlock]; omega
def ExprG (d δ B : Nat) : Prop := ∀ (T m : Nat) (ty : List Int) (k : Int) (a : Option Addr) (len cap : Nat) (w : World), TapeAt T m w → IntsAt T w a len cap ty → IsTy k → m + B ≤ 2 ^ 60 → len ≤ 1000 →
    Calls Tryz.prog 24 #[.pointer (some ⟨T, 0, none⟩), .slice a len cap, .int .i64 k, .int .i64 (d : Nat)] w fun r w' => MadeBy T (m + B) δ ty k w r w'
def ExprOf (d B : Nat) : Prop := ExprG d d B
theorem ExprG.call {d δ B : Nat} (h : ExprG d δ B) (T m : Nat) (ty : List Int) (k : Int) (a : Option Addr) (len cap : Nat) (w : World) (h1 : TapeAt T m w) (h2 : IntsAt T w a len cap ty) (h3 : IsTy k) (h4 : m + B ≤ 2 ^ 60) (h5 : len ≤ 1000) :
    Calls Tryz.prog 24 #[.pointer (some ⟨T, 0, none⟩), .slice a len cap, .int .i64 k, .int .i64 (d : Nat)] w fun r w' => MadeBy T (m + B) δ ty k w r w' := h T m ty k a len cap w h1 h2 h3 h4 h5
theorem ExprOf.call {d B : Nat} (h : ExprOf d B) (T m : Nat) (ty : List Int) (k : Int) (a : Option Addr) (len cap : Nat) (w : World) (h1 : TapeAt T m w) (h2 : IntsAt T w a len cap ty) (h3 : IsTy k) (h4 : m + B ≤ 2 ^ 60) (h5 : len ≤ 1000) :
    Calls Tryz.prog 24 #[.pointer (some ⟨T, 0, none⟩), .slice a len cap, .int .i64 k, .int .i64 (d : Nat)] w fun r w' => MadeBy T (m + B) d ty k w r w' := h T m ty k a len cap w h1 h2 h3 h4 h5
theorem wp_region_lin_in {P : Program} {C : World → Prop} {id : Nat} {Q : Exit → Act → World → Prop} {a : Act} {w : World} {l : List Oper} (hC : ∀ x : Ext w, C x.val) (hm : P.follows .mixedOrders = true) (hB : linB .any l.toArray = true)
    (h : ∀ x : Ext w, wpLin P l.toArray C (fun a' w' => Q .normal a' w') l a x.val) : (Code.region id l.toArray true).wp P Q a w := by
  obtain ⟨x, hx⟩ := Cls.start w
  refine wp_region_any hm ?_
  have h1 := lexI_of_lin (C := C) l 0 a x.val (by simp) (h x)
  rw [hx]
  refine wpAny_of_lexI (C := C) (Q := fun a' w' => Q .normal a' w') hB (fun _ _ h => h) _ (List.range' 0 l.length) _ a x.val (by simp) List.pairwise_lt_range' (fun j => ?_) (by simp) ?_ (.inr (hC x)) h1
  · rw [List.mem_range'_1]
    simp only [List.size_toArray]
    constructor
    · intro hj
      have : j < l.length := by omega
      exact ⟨this, by simp [this]⟩
    · intro hj; omega
  · intro j oj hj hl
    rw [getD_replicate_false] at hl
    cases hl
theorem lat_start {T m : Nat} {w : World} (h : TapeAt T m w) (x : Ext w) : ∃ y : Lat T m w, x.val = y.val := ⟨⟨x.val, Tp.ofBelow x.below, h.later x.below⟩, rfl⟩
set_option maxHeartbeats 4000000 in
set_option maxRecDepth 20000 in
theorem two_calls (d δ B : Nat) (hE : ExprG d δ B) (T m : Nat) (ty : List Int) (op x : Int) (a : Option Addr) (len cap : Nat) (b4 b5 b7 : Nat) (w : World) (h : TapeAt T m w) (ht : IntsAt T w a len cap ty) (hx : IsTy x) (hm : m + 2 * B ≤ 2 ^ 60) (hlen : len ≤ 1000) (hd : d ≤ 100)
    (h4 : w.heap[b4]? = some (.cells #[.pointer (some ⟨T, 0, none⟩)] 23)) (h5 : w.heap[b5]? = some (.cells #[.slice a len cap] 22)) (h7 : w.heap[b7]? = some (.cells #[.int .i64 ((d : Nat) + 1 : Int)] 3)) (hb4 : b4 ≠ T) (hb5 : b5 ≠ T) (hb7 : b7 ≠ T) :
    Calls Tryz.prog 42 #[.int .i64 op, .int .i64 x, .pointer (some ⟨b4, 0, none⟩), .pointer (some ⟨b5, 0, none⟩), .pointer (some ⟨b7, 0, none⟩)] w fun r w' =>
      ∃ (e1 e2 : Ex) (a' : Option Addr) (cap' : Nat), r = .returned (.agg #[.int .i64 op, .int .i64 0, .int .i64 0, .string ⟨#[]⟩, .int .i64 0, .slice a' 2 cap']) ∧ Made ty δ x e1 ∧ Made ty δ x e2 ∧ Kids w' (fun b => w.heap.size ≤ b) a' 2 cap' [e1, e2] ∧ (∃ rs : List Rec, rs.map Rec.e = [e1, e2] ∧ RowK w' (fun b => w.heap.size + 1 ≤ b) w.heap.size (.slice a' 2 cap') rs) ∧ Tq T (m + 2 * B) w w' := by
  have hT := h.lt
  have H := Lib.hid h
  have HT := Lib.hid ht
  have HX := Lib.hid hx
  have HE := Lib.hid hE
  have g4 : w.cell? ⟨b4, 0, none⟩ = some (.pointer (some ⟨T, 0, none⟩)) := by rw [cell_of_row _ _ _ _ _ (0, 0) h4]; rfl
  have g5 : w.cell? ⟨b5, 0, none⟩ = some (.slice a len cap) := by rw [cell_of_row _ _ _ _ _ (0, 0) h5]; rfl
  have g7 : w.cell? ⟨b7, 0, none⟩ = some (.int .i64 ((d : Nat) + 1 : Int)) := by rw [cell_of_row _ _ _ _ _ (0, 0) h7]; rfl
  have s4 := (Array.getElem?_eq_some_iff.1 h4).1
  have s5 := (Array.getElem?_eq_some_iff.1 h5).1
  have s7 := (Array.getElem?_eq_some_iff.1 h7).1
  clear h ht hx hE h4 h5 h7
  go_enter Tryz.func42, Tryz.ntmps42
  go_wp2_with (go_at_call 24; ((with_reducible refine (HE.out.call T m ty x a len cap _ (H.out.later ((Below.refl _ _).alloc (Nat.le_refl _) _)) (HT.out.tp ((Tp.refl _ _).alloc _)) HX.out (by omega) hlen).mono ?_); rintro r1 w1 hq; obtain ⟨e1, a1, n1, c1, rfl, hmade, hfine, hkids, z, rfl⟩ := hq; have HM1 := Lib.hid hmade; have HF1 := Lib.hid hfine; have HK1 := Lib.hid hkids; clear hmade hfine hkids; have zs := z.size))
  have zs2 : w.heap.size + 1 ≤ z.val.heap.size := by simpa using zs
  have HT2 : Hid (TapeAt T (m + B) (z.val.alloc (.cells #[.int .i64 e1.op, .int .i64 e1.ty, .int .i64 e1.num, .string e1.text, .int .i64 e1.col, .slice a1 n1 c1] 64))) := Lib.hid (z.at_.later ((Below.refl _ _).alloc (Nat.le_refl _) _))
  haveI : Nonempty (Lat T (m + 2 * B) (z.val.alloc (.cells #[.int .i64 e1.op, .int .i64 e1.ty, .int .i64 e1.num, .string e1.text, .int .i64 e1.col, .slice a1 n1 c1] 64))) := ⟨⟨_, Tp.refl _ _, HT2.out.mono (by omega)⟩⟩
  have p4 : b4 < z.val.heap.size := by omega
  have p5 : b5 < z.val.heap.size := by omega
  have p7 : b7 < z.val.heap.size := by omega
  have p41 : b4 < z.val.heap.size + 1 := by omega
  have p51 : b5 < z.val.heap.size + 1 := by omega
  have p71 : b7 < z.val.heap.size + 1 := by omega
  have p42 : b4 < w.heap.size + 1 := by omega
  have p52 : b5 < w.heap.size + 1 := by omega
  have p72 : b7 < w.heap.size + 1 := by omega
  have pz : z.val.heap.size ≠ T := by omega
  refine wp_region_lin_in (C := fun w' => ∃ y : Lat T (m + 2 * B) (z.val.alloc (.cells #[.int .i64 e1.op, .int .i64 e1.ty, .int .i64 e1.num, .string e1.text, .int .i64 e1.col, .slice a1 n1 c1] 64)), w' = y.val) (fun x => lat_start (HT2.out.mono (by omega)) x) (by kernel_rfl) (by kernel_rfl) ?_
  intro x0
  have x0s := x0.size
  repeat (refine lin_calm rfl ?_; intro KK hKK; go_big_quiet_step (fail); refine wpQuiet_nil ?_; refine hKK _ ?_; clear hKK KK)
  refine lin_free rfl ?_
  intro KK hKK
  go_wp2_with (go_at_call 24; ((with_reducible refine (HE.out.call T (m + B) ty x a len cap _ (HT2.out.later x0.below) ((((HT.out.tp ((Tp.refl _ _).alloc _)).tp z.tp).tp ((Tp.refl _ _).alloc _)).tp (Tp.ofBelow x0.below)) HX.out (by omega) hlen).mono ?_); rintro r1 w1 hq; obtain ⟨e2, a2, n2, c2, rfl, hmade, hfine, hkids, z2, rfl⟩ := hq; have HM2 := Lib.hid hmade; have HF2 := Lib.hid hfine; have HK2 := Lib.hid hkids; clear hmade hfine hkids; have z2s := z2.size))
  refine hKK _ _ (.inr ⟨⟨_, z2.on (Tp.ofBelow x0.below), z2.at_.mono (by omega)⟩, rfl⟩) ?_
  clear hKK KK
  refine lin_free rfl ?_
  intro KK hKK
  go_wp2_with fail
  refine hKK _ _ (.inr ⟨⟨_, (z2.on (Tp.ofBelow x0.below)).alloc _, (z2.at_.mono (by omega)).later ((Below.refl _ _).alloc (Nat.le_refl _) _)⟩, rfl⟩) ?_
  clear hKK KK
  refine lin_free rfl ?_
  intro KK hKK
  go_wp2_with fail
  refine hKK _ _ (.inr ⟨⟨_, (z2.on (Tp.ofBelow x0.below)).alloc _, (z2.at_.mono (by omega)).later ((Below.refl _ _).alloc (Nat.le_refl _) _)⟩, rfl⟩) ?_
  clear hKK KK
  refine lin_free rfl ?_
  intro KK hKK
  have x0s2 : z.val.heap.size + 1 ≤ x0.val.heap.size := by simpa using x0s
  have hTn : w.heap.size ≠ T := by omega
  have hB0 : z.val.heap[w.heap.size]? = some (.cells #[.int .i64 0, .int .i64 0, .int .i64 0, .string ⟨#[]⟩, .int .i64 0, .slice none 0 0] 64) := (z.tp.block _ (by simp) hTn).trans (heap_alloc_new w _)
  have hB1 : z2.val.heap[w.heap.size]? = some (.cells #[.int .i64 0, .int .i64 0, .int .i64 0, .string ⟨#[]⟩, .int .i64 0, .slice none 0 0] 64) := (z2.tp.block _ (by omega) hTn).trans ((x0.below.block _ (by simp; omega)).trans ((Below.heap_alloc _ _ _ (by omega)).trans hB0))
  obtain ⟨b0, f0, f1, f2, f3, f4, f5, k0, k1, k2, k3, k4, k5⟩ := six hB1
  clear hB0 hB1
  go_wp2_with fail
  refine hKK _ _ (.inl trivial) ?_
  clear hKK KK
  refine lin_nil ?_
  go_wp2_with fail
  refine ret_ex rfl ?_
  simp [results, Tryz.results42, go_sem, b0, k0, k1, k2, k3, k4, k5]
  have hk1 : Kids z.val (fun b => w.heap.size + 1 ≤ b) a1 n1 c1 e1.kids := by
    have := HK1.out
    rw [show (w.alloc (.cells #[.int .i64 0, .int .i64 0, .int .i64 0, .string ⟨#[]⟩, .int .i64 0, .slice none 0 0] 64)).heap.size = w.heap.size + 1 by simp] at this
    exact this
  have hk2 := HK2.out
  have hf1 := HF1.out
  have hf2 := HF2.out
  have hm1 := HM1.out
  have hm2 := HM2.out
  clear HK1 HK2 HF1 HF2 HM1 HM2 HE HT2 HT H k0 k1 k2 k3 k4 k5 f0 f1 f2 f3 f4 f5 this
  have hA : Tq T (m + 2 * B) w z2.val := Tq.of (z2.on ((((Tp.refl _ _).alloc _).trans z.tp |>.alloc _).ext x0)) (z2.at_.mono (by omega))
  have hu1 : Up (w.heap.size + 1) z.val z2.val := Up.lat z2 (((Up.refl _ _).alloc _).ext x0) (by omega)
  have hk3 := hk1.up hu1
  have hk4 : Kids z2.val (fun b => w.heap.size + 1 ≤ b) a2 n2 c2 e2.kids := hk2.low (by omega)
  have hr2 : ∀ r ∈ [(⟨e1, a1, n1, c1⟩ : Rec), ⟨e2, a2, n2, c2⟩], r.e.fine ∧ Kids z2.val (fun b => w.heap.size + 1 ≤ b) r.a r.len r.cap r.e.kids := fun r hr => by
    simp only [List.mem_cons, List.not_mem_nil, or_false] at hr
    rcases hr with rfl | rfl
    · exact ⟨hf1, hk3⟩
    · exact ⟨hf2, hk4⟩
  have hN := fun u0 u1 u2 u3 u4 u5 => node_end (u0 := u0) (u1 := u1) (u2 := u2) (u3 := u3) (u4 := u4) (u5 := u5) (R := w.heap.size) (rs := [⟨e1, a1, n1, c1⟩, ⟨e2, a2, n2, c2⟩]) hA (Nat.le_refl _) hT b0 (by unfold maxLen; simp) hr2
  have hO := fun u0 u1 u2 u3 u4 u5 => node_row (u0 := u0) (u1 := u1) (u2 := u2) (u3 := u3) (u4 := u4) (u5 := u5) (R := w.heap.size) (rs := [⟨e1, a1, n1, c1⟩, ⟨e2, a2, n2, c2⟩]) hA (Nat.le_refl _) b0 (by unfold maxLen; simp) hr2
  simp only [flatR, Rec.cells, List.append_nil, List.cons_append, List.nil_append, List.length_cons, List.length_nil, List.map_cons, List.map_nil] at hN hO
  obtain ⟨hK, hQ⟩ := hN (.int .i64 op) (.int .i64 0) (.int .i64 0) (.string ⟨#[]⟩) (.int .i64 0) (.slice (some ⟨z2.val.heap.size, 0, none⟩) 2 2)
  have hO2 := hO (.int .i64 op) (.int .i64 0) (.int .i64 0) (.string ⟨#[]⟩) (.int .i64 0) (.slice (some ⟨z2.val.heap.size, 0, none⟩) 2 2)
  exact ⟨e1, e2, some ⟨z2.val.heap.size, 0, none⟩, 2, ⟨rfl, rfl⟩, hm1, hm2, hK, ⟨_, rfl, hO2⟩, hQ⟩
end Go.Proofs.YtdmhmlnfoocnjaaGreatDoor
