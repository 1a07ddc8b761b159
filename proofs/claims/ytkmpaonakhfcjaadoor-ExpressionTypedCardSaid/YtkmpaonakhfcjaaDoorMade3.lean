/-
  A value and a row that the tape makes.
-/
import Derived.Test.YtkmpaonakhfcjaaDoorMade2
set_option linter.unusedVariables false
namespace Go.Proofs.YtkmpaonakhfcjaaDoor
open Go Go.RowKit Go.Deep
theorem getV_mem {l : List Vl} {i : Nat} (h : i < l.length) : l.getD i Vl.z ∈ l := by
  simp [List.getD, h]
theorem RowT.open_ {T : Nat} {w : World} {a : Option Addr} {len cap : Nat} {row : List Vl} (h : RowT T w a len cap row) (hl : 0 < len) : ∃ b off, a = some ⟨b, off, none⟩ ∧ b ≠ T ∧ b < w.heap.size ∧ ∀ i, i < len →
    w.cell? ⟨b, off + i * 3, none⟩ = some (.int .i64 (row.getD i Vl.z).k) ∧ w.cell? ⟨b, off + i * 3 + 1, none⟩ = some (.int .i64 (row.getD i Vl.z).n) ∧ w.cell? ⟨b, off + i * 3 + 2, none⟩ = some (.string (row.getD i Vl.z).s) := by
  obtain ⟨b, off, rfl, hT, hb, hc⟩ := h.2.2.2.2.resolve_left (by omega)
  exact ⟨b, off, rfl, by omega, hb, hc⟩
theorem RowT.le {T : Nat} {w : World} {a : Option Addr} {len cap : Nat} {row : List Vl} (h : RowT T w a len cap row) : len ≤ cap := h.2.1
theorem RowT.max {T : Nat} {w : World} {a : Option Addr} {len cap : Nat} {row : List Vl} (h : RowT T w a len cap row) : cap ≤ maxLen := h.2.2.1
theorem free_of_row {w : World} {b : Nat} {cs : Array Value} {t : TypeId} (h : w.heap[b]? = some (.cells cs t (0, 0))) (i : Nat) : w.frozen? ⟨b, i, none⟩ = false := by simp [World.frozen?, h]
theorem fresh_at {w : World} {cs : Array Value} {t : TypeId} (y : Ext (w.alloc (.cells cs t))) (i : Nat) (h : i < cs.size) : y.val.frozen? ⟨w.heap.size, i, none⟩ = false ∧ y.val.cell? ⟨w.heap.size, i, none⟩ = some cs[i] := by
  have hb : y.val.heap[w.heap.size]? = some (.cells cs t (0, 0)) := (y.below.block _ (by simp)).trans (heap_alloc_new w _)
  exact ⟨free_of_row hb i, by rw [cell_of_row _ _ _ _ _ (0, 0) hb]; simp [h]⟩
theorem fresh3 {T m : Nat} {w : World} {a0 a1 a2 : Value} {t : TypeId} (hT : T < w.heap.size) (y : Ext (w.alloc (.cells #[a0, a1, a2] t))) (z : Lat T m y.val) :
    z.val.frozen? ⟨w.heap.size, 0, none⟩ = false ∧ z.val.frozen? ⟨w.heap.size, 1, none⟩ = false ∧ z.val.frozen? ⟨w.heap.size, 2, none⟩ = false ∧
    z.val.cell? ⟨w.heap.size, 0, none⟩ = some a0 ∧ z.val.cell? ⟨w.heap.size, 1, none⟩ = some a1 ∧ z.val.cell? ⟨w.heap.size, 2, none⟩ = some a2 := by
  have h1 : w.heap.size < y.val.heap.size := by have := y.size; simp at this; omega
  have h2 : w.heap.size ≠ T := by omega
  rw [z.frozen 0 h1 h2, z.frozen 1 h1 h2, z.frozen 2 h1 h2, z.cell 0 h1 h2, z.cell 1 h1 h2, z.cell 2 h1 h2]
  have k0 := fresh_at y 0 (by simp)
  have k1 := fresh_at y 1 (by simp)
  have k2 := fresh_at y 2 (by simp)
  exact ⟨k0.1, k1.1, k2.1, k0.2, k1.2, k2.2⟩
def IsTy (k : Int) : Prop := k = 1 ∨ k = 2 ∨ k = 3
theorem tyL_at {l : List Int} (h : TyL l) {j : Nat} (hj : j < l.length) : IsTy (l.getD j 0) := h _ (by simp [List.getD, hj])
set_option maxHeartbeats 4000000 in
set_option maxRecDepth 20000 in
theorem Value_calls (T m : Nat) (k : Int) (w : World) (h : TapeAt T m w) (hk : IsTy k) (hm : m ≤ 2 ^ 61) :
    Calls Tryd.prog 27 #[.pointer (some ⟨T, 0, none⟩), .int .i64 k, .bool true] w fun e w' => ∃ v : Vl, okV k v ∧ e = .returned (.agg #[.int .i64 v.k, .int .i64 v.n, .string v.s]) ∧ Tq T (m + 1) w w' := by
  have hT := h.lt
  have H := Lib.hid h
  have HK : Hid (k = 1 ∨ k = 2 ∨ k = 3) := Lib.hid hk
  clear h hk
  go_enter Tryd.func27, Tryd.ntmps27
  go_wp2_with (first | (go_at_call 67; ((with_reducible refine (Values_calls T k _ (by simp; omega) HK.out).mono ?_); rintro e1 w1 hq; obtain ⟨l, a, cap, rfl, hl, hrow, y, rfl⟩ := hq; have h3 := hl.1; have h13 := hl.2.1; obtain ⟨b, off, rfl, hbT, hb2, hcs⟩ := hrow.open_ (by omega); have HV := Lib.hid hl.2.2; have HC := Lib.hid hcs; have hle := hrow.le; have hmax := hrow.max; unfold maxLen at hmax; clear hl hrow hcs; have ys := y.size)) | (go_at_call 8; ((with_reducible refine (Next_calls T m _ _ ((H.out.later ((Below.refl _ _).alloc (Nat.le_refl _) _)).later y.below) (by omega) (by omega) (by omega)).mono ?_); rintro e1 w1 hq; obtain ⟨r, rfl, hr, z, rfl⟩ := hq; have zs := z.size; have hr2 : r < l.length := (by omega); have hat := HC.out r hr2; obtain ⟨q0, q1, q2⟩ := hat; have hok := Lib.hid (HV.out _ (getV_mem hr2)); clear hr; generalize l.getD r Vl.z = v at q0 q1 q2 hok; obtain ⟨f0, f1, f2, c0, c1, c2⟩ := fresh3 hT y z; have ys2 : w.heap.size + 1 ≤ y.val.heap.size := (by simpa using ys))))
  refine ret_ex rfl ?_
  simp [results, Tryd.results27, go_sem, c0, c1, c2]
  refine ⟨v, hok.out, ⟨rfl, rfl, rfl⟩, Tq.of ?_ (z.at_.upto ?_)⟩
  · repeat first | with_reducible exact Tp.refl _ _ | with_reducible refine Tp.setCell ?_ (by first | (left; omega) | (left; simp; done) | (left; simp; omega)) _ | with_reducible refine Tp.alloc ?_ _ | with_reducible refine Tp.drew ?_ | with_reducible refine Lat.on _ ?_ | with_reducible refine Tp.ext ?_ _
  · repeat first | with_reducible exact Below.refl _ _ | with_reducible refine Below.setCell ?_ (by first | omega | (simp; done) | (simp; omega)) _ | with_reducible refine Below.alloc ?_ (by first | omega | (simp; done) | (simp; omega)) _ | with_reducible refine Below.drew ?_ | with_reducible refine Ext.on _ ?_ (by first | omega | (simp; done) | (simp; omega))
set_option maxHeartbeats 4000000 in
set_option maxRecDepth 20000 in
theorem Row_calls (T m : Nat) (ty : List Int) (a : Option Addr) (len cap : Nat) (w : World) (h : TapeAt T m w) (ht : IntsAt T w a len cap ty) (hy : TyL ty) (hm : m ≤ 2 ^ 60) (hlen : len ≤ 1000) :
    Calls Tryd.prog 10 #[.pointer (some ⟨T, 0, none⟩), .slice a len cap] w fun e w' => ∃ (row : List Vl) (a' : Option Addr) (cap' : Nat), e = .returned (.slice a' len cap') ∧ row.length = len ∧ (∀ i, i < len → okV (ty.getD i 0) (row.getD i Vl.z)) ∧ RowT T w' a' len cap' row ∧ Tq T (m + len) w w' := by
  have hT := h.lt
  obtain ⟨i0, hi, hz0, hz1, hz2⟩ := info_parts infoVl
  have hle := ht.2.1
  have hmax := ht.2.2.1
  have hlt0 := ht.1
  unfold maxLen at hmax
  have H := Lib.hid h
  have HT := Lib.hid ht
  have HY := Lib.hid hy
  have HL0 := Lib.hid hlt0
  clear h ht hy hlt0
  go_enter Tryd.func10, Tryd.ntmps10
  go_wp2_with fail
  go_loopw [5, 6] (fun u i wr => ∃ (j : Nat) (l : List Vl), j ≤ len ∧ i = .int .i64 j ∧ l.length = j ∧ (∀ i, i < j → okV (ty.getD i 0) (l.getD i Vl.z)) ∧ wr.ownsRow w.heap.size 39 3 u l.length (flatV l) ∧ Tq T (m + j) w wr) (fun _ i _ => len - (intOf i).toNat)
  case atStart => exact ⟨0, [], by omega, rfl, rfl, fun i h => by omega, World.ownsRow_nil _ _ _ 3, Tq.of (Tp.refl _ _) H.out⟩
  case round =>
    obtain ⟨j, l, hj, rfl, hl, hok, hown, y, rfl⟩ := hrel
    have HO := Lib.hid hown
    have HK := Lib.hid hok
    have HL := Lib.hid hl
    clear hown hok hl
    by_cases hlt : j < len
    · obtain ⟨b, off, rfl, hb1, hb2, hc⟩ := HT.out.2.2.2.resolve_left (by omega)
      have q := hc j hlt
      have hbT : b ≠ T := by omega
      have hty : IsTy (ty.getD j 0) := tyL_at HY.out (by have := HL0.out; omega)
      have HTY := Lib.hid hty
      clear hc hty
      generalize hk : ty.getD j 0 = k at q HTY
      have HKK := Lib.hid hk
      clear hk
      go_wp2_with (first | (go_at_call 27; ((with_reducible refine (Value_calls T (m + j) k _ y.at_ HTY.out (by omega)).mono ?_); rintro e1 w1 hq; obtain ⟨v, hv, rfl, z, rfl⟩ := hq; have HV := Lib.hid hv; clear hv; have zs := z.size; have ys := y.size)) | (at_builtin; refine wpList_append_own_at _ rfl _ _ 32 rfl w.heap.size 39 i0 (.agg #[.int .i64 0, .int .i64 0, .string ⟨#[]⟩]) 3 32 Tryd.underlying32 hi hz0 hz1 hz2 rfl (by decide) _ l.length (flatV l) rfl (ownV_later (own_tp HO.out z.tp hT) (by repeat first | with_reducible exact Below.refl _ _ | with_reducible refine Below.setCell ?_ (by first | omega | (simp; done) | (simp; omega)) _ | with_reducible refine Below.alloc ?_ (by first | omega | (simp; done) | (simp; omega)) _ | with_reducible refine Below.drew ?_ | with_reducible refine Ext.on _ ?_ (by first | omega | (simp; done) | (simp; omega)))) ⟨z.val.heap.size, 0, none⟩ 1 1 (Vl.cells v) rfl rfl (cells_new' _ _ _) (Vl.one _) (by have := HL.out; unfold maxLen; omega) (by have := HL.out; omega) (by simp; omega) ?_; intro v3 w3 hown3 hg3 _ hat3; have HO3 := Lib.hid hown3; have HG := Lib.hid hg3; have HA := Lib.hid hat3; clear hown3 hg3 hat3))
      go_roundw
      case rel =>
        refine ⟨j + 1, l ++ [v], by omega, by go_num, by rw [List.length_append, HL.out]; rfl, ?_, ?_, Tq.of ?_ ?_⟩
        · intro i hi2
          by_cases h2 : i < j
          · have := HK.out i h2
            rw [show (l ++ [v]).getD i Vl.z = l.getD i Vl.z by simp [List.getD, List.getElem?_append_left (show i < l.length by rw [HL.out]; exact h2)]]
            exact this
          · have : i = j := by omega
            subst this
            rw [show (l ++ [v]).getD i Vl.z = v by simp [List.getD, HL.out], HKK.out]
            exact HV.out
        · rw [List.length_append, flatV_append]; simpa [flatV] using HO3.out
        · exact ((z.on y.tp).alloc _).grown HG.out (fun k hk => (HO.out.lt k hk).1)
        · refine z.at_.upto (Below.grown (w := z.val.alloc _) ?_ HG.out (by simp; omega) (fun k hk => by have := (HO.out.lt k hk).1; omega))
          repeat first | with_reducible exact Below.refl _ _ | with_reducible refine Below.setCell ?_ (by first | omega | (simp; done) | (simp; omega)) _ | with_reducible refine Below.alloc ?_ (by first | omega | (simp; done) | (simp; omega)) _ | with_reducible refine Below.drew ?_ | with_reducible refine Ext.on _ ?_ (by first | omega | (simp; done) | (simp; omega))
      case measure => simp [intOf]; omega
    · have hj2 : j = len := by omega
      subst hj2
      have hsz : ∀ x ∈ l, x.s.size ≤ maxLen := fun x hx => by
        obtain ⟨i, hi2, rfl⟩ := List.getElem_of_mem hx
        have := okV_size (HK.out i (by rw [← HL.out]; exact hi2))
        rw [show l.getD i Vl.z = l[i] by simp [List.getD, hi2]] at this
        unfold maxLen; omega
      obtain ⟨a3, cap3, hu, hrow⟩ := rowT_of HO.out hsz hT
      have HL2 := HL.out
      rw [HL2] at hu hrow
      have HR := Lib.hid hrow
      clear hrow HL2
      subst hu
      go_wp2_with fail
      go_ret
      exact ⟨l, a3, cap3, rfl, HL.out, HK.out, HR.out, y, rfl⟩
end Go.Proofs.YtkmpaonakhfcjaaDoor
