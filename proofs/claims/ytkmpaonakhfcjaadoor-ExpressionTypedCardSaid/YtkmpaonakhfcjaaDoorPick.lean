/-
  A column of a type, or a constant, that the tape chooses.
-/
import Derived.Test.YtkmpaonakhfcjaaDoorTyped
set_option linter.unusedVariables false
namespace Go.Proofs.YtkmpaonakhfcjaaDoor
open Go Go.RowKit Go.Deep
theorem IntsAt.at_ {T : Nat} {w : World} {a : Option Addr} {len cap : Nat} {l : List Int} (h : IntsAt T w a len cap l) {i : Nat} (hi : i < len) : ∃ b off, a = some ⟨b, off, none⟩ ∧ b ≠ T ∧ b < w.heap.size ∧ w.cell? ⟨b, off + i, none⟩ = some (.int .i64 (l.getD i 0)) := by
  obtain ⟨b, off, rfl, hT, hb, hc⟩ := h.2.2.2.resolve_left (by omega)
  exact ⟨b, off, rfl, by omega, hb, hc i hi⟩
theorem IntsAt.le {T : Nat} {w : World} {a : Option Addr} {len cap : Nat} {l : List Int} (h : IntsAt T w a len cap l) : len ≤ cap := h.2.1
theorem IntsAt.max {T : Nat} {w : World} {a : Option Addr} {len cap : Nat} {l : List Int} (h : IntsAt T w a len cap l) : cap ≤ maxLen := h.2.2.1
/-- The six cells of a block that is known whole. -/
theorem six {W : World} {b : Nat} {a0 a1 a2 a3 a4 a5 : Value} {t : TypeId} (h : W.heap[b]? = some (.cells #[a0, a1, a2, a3, a4, a5] t)) :
    b < W.heap.size ∧ W.frozen? ⟨b, 0, none⟩ = false ∧ W.frozen? ⟨b, 1, none⟩ = false ∧ W.frozen? ⟨b, 2, none⟩ = false ∧ W.frozen? ⟨b, 3, none⟩ = false ∧ W.frozen? ⟨b, 4, none⟩ = false ∧ W.frozen? ⟨b, 5, none⟩ = false ∧
    W.cell? ⟨b, 0, none⟩ = some a0 ∧ W.cell? ⟨b, 1, none⟩ = some a1 ∧ W.cell? ⟨b, 2, none⟩ = some a2 ∧ W.cell? ⟨b, 3, none⟩ = some a3 ∧ W.cell? ⟨b, 4, none⟩ = some a4 ∧ W.cell? ⟨b, 5, none⟩ = some a5 := by
  refine ⟨(Array.getElem?_eq_some_iff.1 h).1, free_of_row h _, free_of_row h _, free_of_row h _, free_of_row h _, free_of_row h _, free_of_row h _, ?_, ?_, ?_, ?_, ?_, ?_⟩
  all_goals
    rw [cell_of_row _ _ _ _ _ (0, 0) h]
    rfl
theorem getI_mem {l : List Int} {i : Nat} (h : i < l.length) : l.getD i 0 ∈ l := by
  simp [List.getD, h]
/-- What a call gives that makes an expression of type k. -/
def MadeBy (T m d : Nat) (ty : List Int) (k : Int) (w : World) (r : Ending) (w' : World) : Prop :=
  ∃ (e : Ex) (a : Option Addr) (len cap : Nat), r = .returned (.agg #[.int .i64 e.op, .int .i64 e.ty, .int .i64 e.num, .string e.text, .int .i64 e.col, .slice a len cap]) ∧ Made ty d k e ∧ e.fine ∧ Kids w' (fun b => w.heap.size ≤ b) a len cap e.kids ∧ Tq T m w w'
theorem wf_small {n : Int} (h1 : -1000000000000 ≤ n) (h2 : n ≤ 1000000000000) : (Lit.int .i64 n).wf = true := by
  have h3 : IntKind.i64.min ≤ n := Int.le_trans (by decide) h1
  simp [Lit.wf]
  exact ⟨h3, by omega⟩
theorem const_fine (k : Int) (hk : IsTy k) (v : Vl) (hv : okV k v) : (Ex.mk (cOp v.k) (cTy v.k k) (cNum v.k v.n) (cTxt v.k v.s) 0 []).fine := by
  have hs := okV_size hv
  obtain ⟨h1, h2⟩ := hv
  have hk' : 1 ≤ k ∧ k ≤ 3 := by rcases hk with rfl | rfl | rfl <;> omega
  have hn : -1000000000000 ≤ v.n ∧ v.n ≤ 1000000000000 := by
    unfold vB at h2
    split at h2
    · simp at h2; omega
    · split at h2
      · simp at h2; omega
      · split at h2
        · simp at h2; omega
        · split at h2
          · simp at h2; omega
          · exact absurd h2 Bool.false_ne_true
  refine ⟨wf_small ?_ ?_, wf_small ?_ ?_, wf_small ?_ ?_, ?_, wf_small (n := 0) (by decide) (by decide)⟩
  · show _ ≤ cOp v.k; unfold cOp; split <;> (try split) <;> (try split) <;> omega
  · show cOp v.k ≤ _; unfold cOp; split <;> (try split) <;> (try split) <;> omega
  · show _ ≤ cTy v.k k; unfold cTy; split <;> (try split) <;> (try split) <;> omega
  · show cTy v.k k ≤ _; unfold cTy; split <;> (try split) <;> (try split) <;> omega
  · show _ ≤ cNum v.k v.n; unfold cNum; split <;> (try split) <;> omega
  · show cNum v.k v.n ≤ _; unfold cNum; split <;> (try split) <;> omega
  · show (cTxt v.k v.s).size ≤ maxLen
    unfold cTxt maxLen
    split
    · omega
    · show 0 ≤ _; omega
set_option maxHeartbeats 4000000 in
set_option maxRecDepth 20000 in
theorem pick_calls (d T m : Nat) (ty : List Int) (k : Int) (a : Option Addr) (len cap : Nat) (w : World) (h : TapeAt T m w) (ht : IntsAt T w a len cap ty) (hk : IsTy k) (hm : m ≤ 2 ^ 60) (hlen : len ≤ 1000) :
    Calls Tryd.prog 25 #[.pointer (some ⟨T, 0, none⟩), .slice a len cap, .int .i64 k] w fun r w' => MadeBy T (m + 2) d ty k w r w' := by
  have hT := h.lt
  obtain ⟨i0, hi, hz0, hz1, hz2⟩ := info_parts infoI
  have hle := ht.2.1
  have hmax := ht.2.2.1
  have hlt0 := ht.1
  unfold maxLen at hmax
  have H := Lib.hid h
  have HT := Lib.hid ht
  have HK := Lib.hid hk
  have HL0 := Lib.hid hlt0
  clear h ht hk hlt0
  go_enter Tryd.func25, Tryd.ntmps25
  go_wp2_with fail
  go_loopw [7, 8] (fun u i wr => ∃ (j : Nat) (l : List Int), j ≤ len ∧ i = .int .i64 j ∧ l.length ≤ j ∧ (∀ c ∈ l, ∃ n : Nat, c = n ∧ n < len ∧ ty.getD n 0 = k) ∧ wr.ownsRow (w.heap.size + 1) 3 1 u l.length (flatI l) ∧ Cls (w.alloc (.cells #[.int .i64 0, .int .i64 0, .int .i64 0, .string ⟨#[]⟩, .int .i64 0, .slice none 0 0] 30)) wr) (fun _ i _ => len - (intOf i).toNat)
  case atStart => exact ⟨0, [], by omega, rfl, by simp, fun c h => by simp at h, World.ownsRow_nil _ _ _ 1, Cls.of (Below.refl _ _)⟩
  case round =>
    obtain ⟨j, l, hj, rfl, hl, hok, hown, y, rfl⟩ := hrel
    have HO := Lib.hid hown
    have HC := Lib.hid hok
    clear hown hok
    have ys := y.size
    have ys2 : w.heap.size + 1 ≤ y.val.heap.size := by simpa using ys
    by_cases hlt : j < len
    · obtain ⟨b, off, rfl, hb1, hb2, hc⟩ := HT.out.2.2.2.resolve_left (by omega)
      have q := hc j hlt
      have hb3 : b < w.heap.size + 1 := by omega
      clear hc
      generalize hkj : ty.getD j 0 = kj at q
      have HKJ := Lib.hid hkj
      clear hkj
      by_cases hkk : kj = k
      · have d2 : (kj == k) = true := by simpa using hkk
        have HKK := Lib.hid hkk
        clear hkk
        go_wp2_with (at_builtin; refine wpList_append_own_at _ rfl _ _ 22 rfl (w.heap.size + 1) 3 i0 (.int .i64 0) 1 8 Tryd.underlying22 hi hz0 hz1 hz2 rfl (by decide) _ l.length (flatI l) rfl (ownV_later HO.out (by repeat first | with_reducible exact Below.refl _ _ | with_reducible refine Below.setCell ?_ (by first | omega | (simp; done) | (simp; omega)) _ | with_reducible refine Below.alloc ?_ (by first | omega | (simp; done) | (simp; omega)) _ | with_reducible refine Below.drew ?_ | with_reducible refine Ext.on _ ?_ (by first | omega | (simp; done) | (simp; omega)))) ⟨y.val.heap.size, 0, none⟩ 1 1 [.int .i64 (j : Int)] rfl rfl (cells_new' _ _ _) (int_one _) (by unfold maxLen; omega) (by omega) (by simp; omega) ?_; intro v3 w3 hown3 hg3 _ hat3; have HO3 := Lib.hid hown3; have HG := Lib.hid hg3; have HA := Lib.hid hat3; clear hown3 hg3 hat3)
        go_roundw
        case rel =>
          refine ⟨j + 1, l ++ [(j : Int)], by omega, by go_num, by simp; omega, ?_, ?_, Cls.of (Below.grown (w := y.val.alloc _) ?_ HG.out (by simp at ys ⊢; omega) (fun k hk => by have := (HO.out.lt k hk).1; simp; omega))⟩
          · intro c hc
            rcases List.mem_append.1 hc with hc | hc
            · obtain ⟨n, h1, h2, h3⟩ := HC.out c hc; exact ⟨n, h1, h2, h3⟩
            · simp only [List.mem_cons, List.not_mem_nil, or_false] at hc
              exact ⟨j, hc, hlt, by rw [HKJ.out, HKK.out]⟩
          · rw [List.length_append, flatI_append]; exact HO3.out
          · repeat first | with_reducible exact Below.refl _ _ | with_reducible refine Below.setCell ?_ (by first | omega | (simp; done) | (simp; omega)) _ | with_reducible refine Below.alloc ?_ (by first | omega | (simp; done) | (simp; omega)) _ | with_reducible refine Below.drew ?_ | with_reducible refine Ext.on _ ?_ (by first | omega | (simp; done) | (simp; omega))
        case measure => simp [intOf]; omega
      · have d2 : (kj == k) = false := by simpa using hkk
        clear hkk
        go_wp2_with fail
        go_roundw
        case rel => exact ⟨j + 1, l, by omega, by go_num, by omega, HC.out, HO.out, y, rfl⟩
        case measure => simp [intOf]; omega
    · have hT2 : T < w.heap.size + 1 := by omega
      obtain ⟨a3, cap3, hu, hat⟩ := intsAt_of HO.out hT2
      have HT3 := Lib.hid hat
      clear hat
      subst hu
      have HB : Hid (y.val.heap[w.heap.size]? = some (.cells #[.int .i64 0, .int .i64 0, .int .i64 0, .string ⟨#[]⟩, .int .i64 0, .slice none 0 0] 30)) := Lib.hid ((y.below.block _ (by simp)).trans (heap_alloc_new w _))
      have hTn : w.heap.size ≠ T := by omega
      go_wp2_with (first | (go_at_call 8; ((with_reducible refine (Next_calls T m _ _ ((H.out.later ((Below.refl _ _).alloc (Nat.le_refl _) _)).later y.below) (by omega) (by omega) (by omega)).mono ?_); rintro e1 w1 hq; obtain ⟨r, rfl, hr, z, rfl⟩ := hq; have zs := z.size; obtain ⟨b0, f0, f1, f2, f3, f4, f5, c0, c1, c2, c3, c4, c5⟩ := six ((z.tp.block _ (by omega) hTn).trans HB.out); by_cases hrl : r < l.length; all_goals try (obtain ⟨b, off, rfl, hbT, hb2, q⟩ := HT3.out.at_ hrl; have hg := Lib.hid (HC.out _ (getI_mem hrl)); have hle3 := HT3.out.le; have hmax3 := HT3.out.max; unfold maxLen at hmax3; generalize l.getD r 0 = c at q hg))) | (go_at_call 27; ((with_reducible refine (Value_calls T (m + 1) k _ z.at_ HK.out (by omega)).mono ?_); rintro e1 w1 hq; obtain ⟨v, hv, rfl, z2, rfl⟩ := hq; have HV := Lib.hid hv; clear hv; have z2s := z2.size)) | (go_at_call 21; ((with_reducible refine (rConstant_calls v.k v.n v.s k _).mono ?_); rintro e1 w1 hq; obtain ⟨rfl, t, rfl⟩ := hq; have ts := t.size; clear f0 f1 f2 f3 f4 f5 c0 c1 c2 c3 c4 c5; obtain ⟨b02, f0, f1, f2, f3, f4, f5, c0, c1, c2, c3, c4, c5⟩ := six ((t.below.block w.heap.size (by omega)).trans ((z2.tp.block _ (by omega) hTn).trans ((z.tp.block _ (by omega) hTn).trans HB.out))))))
      · refine ret_ex rfl ?_
        simp [results, Tryd.results25, go_sem, c0, c1, c2, c3, c4, c5]
        obtain ⟨n, rfl, hn1, hn2⟩ := hg.out
        refine ⟨.mk 5 0 0 ⟨#[]⟩ n [], none, 0, 0, rfl, .col k n (by have := HL0.out; omega) hn2, ⟨wf_small (n := 5) (by decide) (by decide), wf_small (n := 0) (by decide) (by decide), wf_small (n := 0) (by decide) (by decide), Nat.zero_le _, wf_small (n := (n : Int)) (by omega) (by omega)⟩, .none, Tq.of ?_ ((z.at_.mono (by omega)).upto ?_)⟩
        · repeat first | with_reducible exact Tp.refl _ _ | with_reducible refine Tp.setCell ?_ (by first | (left; omega) | (left; simp; done) | (left; simp; omega)) _ | with_reducible refine Tp.alloc ?_ _ | with_reducible refine Tp.drew ?_ | with_reducible refine Lat.on _ ?_ | with_reducible refine Tp.ext ?_ _
        · repeat first | with_reducible exact Below.refl _ _ | with_reducible refine Below.setCell ?_ (by first | omega | (simp; done) | (simp; omega)) _ | with_reducible refine Below.alloc ?_ (by first | omega | (simp; done) | (simp; omega)) _ | with_reducible refine Below.drew ?_ | with_reducible refine Ext.on _ ?_ (by first | omega | (simp; done) | (simp; omega))
      · refine ret_ex rfl ?_
        simp [results, Tryd.results25, go_sem, c0, c1, c2, c3, c4, c5]
        refine ⟨.mk (cOp v.k) (cTy v.k k) (cNum v.k v.n) (cTxt v.k v.s) 0 [], none, 0, 0, rfl, .const k v HV.out, const_fine k HK.out v HV.out, .none, Tq.of ?_ (z2.at_.upto ?_)⟩
        · repeat first | with_reducible exact Tp.refl _ _ | with_reducible refine Tp.setCell ?_ (by first | (left; omega) | (left; simp; done) | (left; simp; omega)) _ | with_reducible refine Tp.alloc ?_ _ | with_reducible refine Tp.drew ?_ | with_reducible refine Lat.on _ ?_ | with_reducible refine Tp.ext ?_ _
        · repeat first | with_reducible exact Below.refl _ _ | with_reducible refine Below.setCell ?_ (by first | omega | (simp; done) | (simp; omega)) _ | with_reducible refine Below.alloc ?_ (by first | omega | (simp; done) | (simp; omega)) _ | with_reducible refine Below.drew ?_ | with_reducible refine Ext.on _ ?_ (by first | omega | (simp; done) | (simp; omega))
end Go.Proofs.YtkmpaonakhfcjaaDoor
