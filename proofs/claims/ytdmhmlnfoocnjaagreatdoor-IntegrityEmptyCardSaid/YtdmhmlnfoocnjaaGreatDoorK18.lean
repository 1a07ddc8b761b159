/-
  The values of a type that the tape chooses from.
-/
import Derived.Test.YtdmhmlnfoocnjaaGreatDoorK17
import Derived.Test.YtdmhmlnfoocnjaaGreatDoorK01
import Derived.BigQuiet
set_option linter.unusedVariables false
namespace Go.Proofs.YtdmhmlnfoocnjaaGreatDoor
open Go Go.RowKit Go.Deep
def okV (k : Int) (v : Vl) : Prop := (v.k = 0 ∨ v.k = k) ∧ vB v.k v.n v.s = true
def RowT (T : Nat) (w : World) (a : Option Addr) (len cap : Nat) (row : List Vl) : Prop :=
  row.length = len ∧ len ≤ cap ∧ cap ≤ maxLen ∧ (∀ v ∈ row, v.s.size ≤ maxLen) ∧ (len = 0 ∨ ∃ b off, a = some ⟨b, off, none⟩ ∧ T < b ∧ b < w.heap.size ∧ ∀ i, i < len →
    w.cell? ⟨b, off + i * 3, none⟩ = some (.int .i64 (row.getD i Vl.z).k) ∧ w.cell? ⟨b, off + i * 3 + 1, none⟩ = some (.int .i64 (row.getD i Vl.z).n) ∧ w.cell? ⟨b, off + i * 3 + 2, none⟩ = some (.string (row.getD i Vl.z).s))
theorem RowT.row {T : Nat} {w : World} {a : Option Addr} {len cap : Nat} {row : List Vl} (h : RowT T w a len cap row) : RowIs w a len cap row := by
  refine ⟨h.1, h.2.1, h.2.2.1, h.2.2.2.1, h.2.2.2.2.imp id ?_⟩
  rintro ⟨b, off, ha, hT, hlt, hc⟩
  exact ⟨b, off, ha, hlt, hc⟩
theorem RowT.tp {T : Nat} {w w' : World} {a : Option Addr} {len cap : Nat} {row : List Vl} (h : RowT T w a len cap row) (hb : Tp T w w') : RowT T w' a len cap row := by
  refine ⟨h.1, h.2.1, h.2.2.1, h.2.2.2.1, h.2.2.2.2.imp id ?_⟩
  rintro ⟨b, off, ha, hT, hlt, hc⟩
  refine ⟨b, off, ha, hT, Nat.lt_of_lt_of_le hlt hb.size, fun i hi => ?_⟩
  rw [hb.cell _ hlt (by omega), hb.cell _ hlt (by omega), hb.cell _ hlt (by omega)]
  exact hc i hi
theorem rowT_of {T : Nat} {w : World} {base : Nat} {v : Value} {vs : List Vl} (h : w.ownsRow base 57 3 v vs.length (flatV vs)) (hs : ∀ x ∈ vs, x.s.size ≤ maxLen) (hT : T < base) : ∃ a cap, v = .slice a vs.length cap ∧ RowT T w a vs.length cap vs := by
  rcases h.2 with ⟨rfl, h0⟩ | ⟨g, cap, cur, rfl, hb, hh, hn, hc, hr, ht⟩
  · have : vs = [] := List.eq_nil_of_length_eq_zero h0
    subst this
    exact ⟨none, 0, rfl, rfl, Nat.le_refl _, Nat.zero_le _, hs, .inl rfl⟩
  · refine ⟨some ⟨g, 0, none⟩, cap, rfl, rfl, hn, hc, hs, .inr ⟨g, 0, rfl, by omega, (Array.getElem?_eq_some_iff.1 hh).1, fun i hi => ?_⟩⟩
    have hcell := World.ownsRow.cells h (g := g) rfl
    have hadd : ∀ j, (⟨g, 0, none⟩ : Addr).add j = ⟨g, 0 + j, none⟩ := fun j => by unfold Addr.add; split <;> simp_all
    obtain ⟨f0, f1, f2⟩ := flatV_at vs i hi
    have c0 := hcell _ _ f0
    have c1 := hcell _ _ f1
    have c2 := hcell _ _ f2
    rw [hadd] at c0 c1 c2
    exact ⟨c0, c1, c2⟩
def numsI : List Int := [0, 1, 2, -1, 5, 7, -7, 100, 1000000000000, -1000000000000, 999999999999, 1000000]
def textsT : List ByteArray := [⟨#[]⟩, ⟨#[97]⟩, ⟨#[98]⟩, ⟨#[97, 98]⟩, ⟨#[48]⟩, ⟨#[32]⟩, ⟨#[97, 98, 99, 100, 101, 102, 103, 104, 105, 106, 107, 108, 109, 110, 111, 112, 113, 114, 115, 116, 117, 118, 119, 120]⟩]
def valsI : List Vl := Vl.z :: numsI.map fun n => ⟨1, n, ⟨#[]⟩⟩
def valsB : List Vl := [Vl.z, ⟨2, 0, ⟨#[]⟩⟩, ⟨2, 1, ⟨#[]⟩⟩]
def valsT : List Vl := Vl.z :: textsT.map fun s => ⟨3, 0, s⟩
theorem okV_z (k : Int) : okV k Vl.z := ⟨.inl rfl, by simp [Vl.z, vB, Lib.toList_data]⟩
theorem okV_I : ∀ v ∈ valsI, okV 1 v := by
  intro v hv
  simp only [valsI, numsI, List.map_cons, List.map_nil, List.mem_cons, List.not_mem_nil, or_false] at hv
  rcases hv with rfl | hv
  · exact okV_z _
  · rcases hv with rfl | rfl | rfl | rfl | rfl | rfl | rfl | rfl | rfl | rfl | rfl | rfl <;> simp [okV, vB, Lib.toList_data]
theorem okV_B : ∀ v ∈ valsB, okV 2 v := by
  intro v hv
  simp only [valsB, List.mem_cons, List.not_mem_nil, or_false] at hv
  rcases hv with rfl | rfl | rfl
  · exact okV_z _
  · simp [okV, vB, Lib.toList_data]
  · simp [okV, vB, Lib.toList_data]
theorem okV_T : ∀ v ∈ valsT, okV 3 v := by
  intro v hv
  simp only [valsT, textsT, List.map_cons, List.map_nil, List.mem_cons, List.not_mem_nil, or_false] at hv
  rcases hv with rfl | hv
  · exact okV_z _
  · rcases hv with rfl | rfl | rfl | rfl | rfl | rfl | rfl <;> refine ⟨.inr rfl, by decide⟩
theorem size_of_empty {s : ByteArray} (h : s.toList.isEmpty = true) : s.size = 0 := by
  have h1 := List.isEmpty_iff.1 h
  have h2 := congrArg List.length h1
  rw [Lib.toList_data, Array.length_toList] at h2
  exact h2
theorem okV_size {k : Int} {v : Vl} (h : okV k v) : v.s.size ≤ 24 := by
  obtain ⟨_, hv⟩ := h
  unfold vB at hv
  split at hv
  · rw [Bool.and_eq_true] at hv; have := size_of_empty hv.2; omega
  · split at hv
    · rw [Bool.and_eq_true] at hv; have := size_of_empty hv.2; omega
    · split at hv
      · rw [Bool.and_eq_true] at hv; have := size_of_empty hv.2; omega
      · split at hv
        · simp only [Bool.and_eq_true, textB, decide_eq_true_eq] at hv; exact hv.2.1
        · exact absurd hv Bool.false_ne_true
theorem take_getD {l : List Vl} {j : Nat} (h : j < l.length) : l.take (j + 1) = l.take j ++ [l.getD j Vl.z] := by
  rw [List.take_succ_eq_append_getElem h]; simp [List.getD, h]
theorem valsI_at {j : Nat} (h : j < 12) : valsI.getD (j + 1) Vl.z = ⟨1, numsI.getD j 0, ⟨#[]⟩⟩ := by
  have hl : j < numsI.length := h
  simp [valsI, List.getD, hl]
theorem valsT_at {j : Nat} (h : j < 7) : valsT.getD (j + 1) Vl.z = ⟨3, 0, textsT.getD j ⟨#[]⟩⟩ := by
  have hl : j < textsT.length := h
  simp [valsT, List.getD, hl]
theorem heap_second (w : World) (o o' : Obj) : ((w.alloc o).alloc o').heap[w.heap.size + 1]? = some o' := by
  have := heap_alloc_new (w.alloc o) o'
  simpa using this
theorem own_ne {w : World} {base size n : Nat} {e : TypeId} {v : Value} {xs : List Value} (h : w.ownsRow base e size v n xs) {b : Nat} {cs : Array Value} {t : TypeId} (hb : w.heap[b]? = some (.cells cs t)) (ht : t ≠ e) : ∀ k, v.ownBlock = some k → k ≠ b := by
  intro k hk hkb
  subst hkb
  rcases h.2 with ⟨rfl, _⟩ | ⟨g, cap, cur, rfl, _, hh, _⟩
  · simp [Value.ownBlock] at hk
  · have : g = k := by simpa [Value.ownBlock] using hk
    subst this
    rw [hb] at hh
    simp at hh
    exact ht hh.2
def ValuesOf (k : Int) (l : List Vl) : Prop := 3 ≤ l.length ∧ l.length ≤ 13 ∧ ∀ v ∈ l, okV k v
set_option maxHeartbeats 4000000 in
set_option maxRecDepth 20000 in
theorem Values_1 (T : Nat) (w : World) (hT : T < w.heap.size) :
    Calls Tryz.prog 43 #[.int .i64 1] w fun e w' => ∃ (l : List Vl) (a : Option Addr) (cap : Nat), e = .returned (.slice a l.length cap) ∧ ValuesOf 1 l ∧ RowT T w' a l.length cap l ∧ Cls w w' := by
  obtain ⟨i0, hi, hz0, hz1, hz2⟩ := info_parts infoVl
  go_enter Tryz.func43, Tryz.ntmps43
  go_wp2_with fail
  go_loopw [3, 5] (fun u i wr => ∃ (j : Nat), j ≤ 12 ∧ i = .int .i64 j ∧ wr.ownsRow w.heap.size 57 3 u (j + 1) (flatV (valsI.take (j + 1))) ∧
    Below w.heap.size w wr ∧ wr.heap[w.heap.size + 1]? = some (.cells (numsI.map (Value.int .i64)).toArray 2)) (fun _ i _ => 12 - (intOf i).toNat)
  case atStart => exact ⟨0, by omega, rfl, ownV_later (World.ownsRow_lit (size := 3) w (Vl.cells Vl.z).toArray 1 (Nat.le_refl _) (by unfold maxLen; omega) rfl) ((Below.refl _ _).alloc (Nat.le_refl _) _), by (repeat first|with_reducible exact Below.refl _ _|with_reducible refine Below.setCell ?_ (by first|omega|(simp;done)|(simp;omega)) _|with_reducible refine Below.alloc ?_ (by first|omega|(simp;done)|(simp;omega)) _|with_reducible refine Below.drew ?_|with_reducible refine Ext.on _ ?_ (by first|omega|(simp;done)|(simp;omega))), heap_second w (.cells (Vl.cells Vl.z).toArray 57) (.cells (numsI.map (Value.int .i64)).toArray 2)⟩
  case round =>
    obtain ⟨j, hj, rfl, hown, hbel, hnum⟩ := hrel
    have HO := Lib.hid hown
    have HB := Lib.hid hbel
    clear hown hbel
    by_cases hlt : j < 12
    · have d1 : decide ((j : Int) < 12) = true := by simp; omega
      have xs := (Array.getElem?_eq_some_iff.1 hnum).1
      have q : wr.cell? ⟨w.heap.size + 1, j, none⟩ = some (.int .i64 (numsI.getD j 0)) := by
        have hl : j < numsI.length := hlt
        rw [cell_of_row _ _ _ _ _ (0, 0) hnum]
        simp [List.getD, hl]
      have HN := Lib.hid hnum
      clear hnum
      have HV : Hid (valsI.take (j + 1 + 1) = valsI.take (j + 1) ++ [⟨1, numsI.getD j 0, ⟨#[]⟩⟩]) := Lib.hid (by rw [take_getD (by show j + 1 < 13; omega), valsI_at hlt])
      generalize numsI.getD j 0 = n at q HV
      go_wp2_with (at_builtin; refine wpList_append_own_at _ rfl _ _ 47 rfl w.heap.size 57 i0 (.agg #[.int .i64 0, .int .i64 0, .string ⟨#[]⟩]) 3 32 Tryz.underlying47 hi hz0 hz1 hz2 rfl (by decide) _ (j + 1) (flatV (valsI.take (j + 1))) rfl (ownV_later HO.out (by repeat first|with_reducible exact Below.refl _ _|with_reducible refine Below.setCell ?_ (by first|omega|(simp;done)|(simp;omega)) _|with_reducible refine Below.alloc ?_ (by first|omega|(simp;done)|(simp;omega)) _|with_reducible refine Below.drew ?_|with_reducible refine Ext.on _ ?_ (by first|omega|(simp;done)|(simp;omega)))) ⟨wr.heap.size, 0, none⟩ 1 1 (Vl.cells ⟨1, n, ⟨#[]⟩⟩) rfl rfl (cells_new' _ _ _) (Vl.one _) (by unfold maxLen; omega) (by omega) (by simp; omega) ?_; intro v3 w3 hown3 hg3 _ hat3; have HO3 := Lib.hid hown3; have HG := Lib.hid hg3; have HA := Lib.hid hat3; clear hown3 hg3 hat3)
      go_roundw
      case rel =>
        refine ⟨j + 1, by omega, by go_num, ?_, Below.grown (w := wr.alloc _) (HB.out.alloc (by omega) _) HG.out (by simp; omega) (fun k hk => (HO.out.lt k hk).1), ?_⟩
        · rw [HV.out, flatV_append]; simpa [flatV] using HO3.out
        · refine (HG.out.block _ (by simp; omega) (fun e => own_ne HO.out HN.out (by decide) _ e.symm rfl)).trans ?_
          rw [Below.heap_alloc _ _ _ (by omega)]
          exact HN.out
      case measure => simp [intOf]; omega
    · have d1 : decide ((j : Int) < 12) = false := by simp; omega
      have hj2 : j = 12 := by omega
      subst hj2
      have hown : wr.ownsRow w.heap.size 57 3 u3 valsI.length (flatV valsI) := HO.out
      obtain ⟨a3, cap3, hu, hrow⟩ := rowT_of hown (fun v hv => by have := okV_size (okV_I v hv); unfold maxLen; omega) hT
      have HR := Lib.hid hrow
      clear hrow hown HO
      subst hu
      go_wp2_with fail
      go_ret
      refine ⟨valsI, a3, cap3, rfl, ⟨by decide, by decide, okV_I⟩, HR.out, Cls.of HB.out⟩
set_option maxHeartbeats 4000000 in
set_option maxRecDepth 20000 in
theorem Values_3 (T : Nat) (w : World) (hT : T < w.heap.size) :
    Calls Tryz.prog 43 #[.int .i64 3] w fun e w' => ∃ (l : List Vl) (a : Option Addr) (cap : Nat), e = .returned (.slice a l.length cap) ∧ ValuesOf 3 l ∧ RowT T w' a l.length cap l ∧ Cls w w' := by
  obtain ⟨i0, hi, hz0, hz1, hz2⟩ := info_parts infoVl
  go_enter Tryz.func43, Tryz.ntmps43
  go_wp2_with fail
  go_loopw [3, 7] (fun u i wr => ∃ (j : Nat), j ≤ 7 ∧ i = .int .i64 j ∧ wr.ownsRow w.heap.size 57 3 u (j + 1) (flatV (valsT.take (j + 1))) ∧
    Below w.heap.size w wr ∧ wr.heap[w.heap.size + 1]? = some (.cells (textsT.map Value.string).toArray 9)) (fun _ i _ => 7 - (intOf i).toNat)
  case atStart => exact ⟨0, by omega, rfl, ownV_later (World.ownsRow_lit (size := 3) w (Vl.cells Vl.z).toArray 1 (Nat.le_refl _) (by unfold maxLen; omega) rfl) ((Below.refl _ _).alloc (Nat.le_refl _) _), by (repeat first|with_reducible exact Below.refl _ _|with_reducible refine Below.setCell ?_ (by first|omega|(simp;done)|(simp;omega)) _|with_reducible refine Below.alloc ?_ (by first|omega|(simp;done)|(simp;omega)) _|with_reducible refine Below.drew ?_|with_reducible refine Ext.on _ ?_ (by first|omega|(simp;done)|(simp;omega))), heap_second w (.cells (Vl.cells Vl.z).toArray 57) (.cells (textsT.map Value.string).toArray 9)⟩
  case round =>
    obtain ⟨j, hj, rfl, hown, hbel, hnum⟩ := hrel
    have HO := Lib.hid hown
    have HB := Lib.hid hbel
    clear hown hbel
    by_cases hlt : j < 7
    · have d1 : decide ((j : Int) < 7) = true := by simp; omega
      have xs := (Array.getElem?_eq_some_iff.1 hnum).1
      have q : wr.cell? ⟨w.heap.size + 1, j, none⟩ = some (.string (textsT.getD j ⟨#[]⟩)) := by
        have hl : j < textsT.length := hlt
        rw [cell_of_row _ _ _ _ _ (0, 0) hnum]
        simp [List.getD, hl]
      have HN := Lib.hid hnum
      clear hnum
      have HV : Hid (valsT.take (j + 1 + 1) = valsT.take (j + 1) ++ [⟨3, 0, textsT.getD j ⟨#[]⟩⟩]) := Lib.hid (by rw [take_getD (by show j + 1 < 8; omega), valsT_at hlt])
      generalize textsT.getD j ⟨#[]⟩ = n at q HV
      go_wp2_with (at_builtin; refine wpList_append_own_at _ rfl _ _ 47 rfl w.heap.size 57 i0 (.agg #[.int .i64 0, .int .i64 0, .string ⟨#[]⟩]) 3 32 Tryz.underlying47 hi hz0 hz1 hz2 rfl (by decide) _ (j + 1) (flatV (valsT.take (j + 1))) rfl (ownV_later HO.out (by repeat first|with_reducible exact Below.refl _ _|with_reducible refine Below.setCell ?_ (by first|omega|(simp;done)|(simp;omega)) _|with_reducible refine Below.alloc ?_ (by first|omega|(simp;done)|(simp;omega)) _|with_reducible refine Below.drew ?_|with_reducible refine Ext.on _ ?_ (by first|omega|(simp;done)|(simp;omega)))) ⟨wr.heap.size, 0, none⟩ 1 1 (Vl.cells ⟨3, 0, n⟩) rfl rfl (cells_new' _ _ _) (Vl.one _) (by unfold maxLen; omega) (by omega) (by simp; omega) ?_; intro v3 w3 hown3 hg3 _ hat3; have HO3 := Lib.hid hown3; have HG := Lib.hid hg3; have HA := Lib.hid hat3; clear hown3 hg3 hat3)
      go_roundw
      case rel =>
        refine ⟨j + 1, by omega, by go_num, ?_, Below.grown (w := wr.alloc _) (HB.out.alloc (by omega) _) HG.out (by simp; omega) (fun k hk => (HO.out.lt k hk).1), ?_⟩
        · rw [HV.out, flatV_append]; simpa [flatV] using HO3.out
        · refine (HG.out.block _ (by simp; omega) (fun e => own_ne HO.out HN.out (by decide) _ e.symm rfl)).trans ?_
          rw [Below.heap_alloc _ _ _ (by omega)]
          exact HN.out
      case measure => simp [intOf]; omega
    · have d1 : decide ((j : Int) < 7) = false := by simp; omega
      have hj2 : j = 7 := by omega
      subst hj2
      have hown : wr.ownsRow w.heap.size 57 3 u3 valsT.length (flatV valsT) := HO.out
      obtain ⟨a3, cap3, hu, hrow⟩ := rowT_of hown (fun v hv => by have := okV_size (okV_T v hv); unfold maxLen; omega) hT
      have HR := Lib.hid hrow
      clear hrow hown HO
      subst hu
      go_wp2_with fail
      go_ret
      refine ⟨valsT, a3, cap3, rfl, ⟨by decide, by decide, okV_T⟩, HR.out, Cls.of HB.out⟩
theorem rbool_no (w : World) : Calls Tryz.prog 70 #[.int .i64 0] w fun e w' => e = .returned (.agg #[.int .i64 2, .int .i64 0, .string ⟨#[]⟩]) ∧ Cls w w' := rBool_calls 0 w
theorem rbool_yes (w : World) : Calls Tryz.prog 70 #[.int .i64 1] w fun e w' => e = .returned (.agg #[.int .i64 2, .int .i64 1, .string ⟨#[]⟩]) ∧ Cls w w' := rBool_calls 1 w
set_option maxHeartbeats 4000000 in
set_option maxRecDepth 20000 in
theorem Values_2 (T : Nat) (w : World) (hT : T < w.heap.size) :
    Calls Tryz.prog 43 #[.int .i64 2] w fun e w' => ∃ (l : List Vl) (a : Option Addr) (cap : Nat), e = .returned (.slice a l.length cap) ∧ ValuesOf 2 l ∧ RowT T w' a l.length cap l ∧ Cls w w' := by
  obtain ⟨i0, hi, hz0, hz1, hz2⟩ := info_parts infoVl
  have HO : Hid ((w.alloc (.cells (Vl.cells Vl.z).toArray 57)).ownsRow w.heap.size 57 3 (.slice (some ⟨w.heap.size, 0, none⟩) 1 1) 1 (Vl.cells Vl.z)) :=
    Lib.hid (World.ownsRow_lit (size := 3) w (Vl.cells Vl.z).toArray 1 (Nat.le_refl _) (by unfold maxLen; omega) rfl)
  go_enter Tryz.func43, Tryz.ntmps43
  go_wp2_with (first | (go_at_call 70; (first | ((with_reducible refine (rbool_no _).mono ?_); rintro e1 _ ⟨rfl, y, rfl⟩; have ys := y.size) | ((with_reducible refine (rbool_yes _).mono ?_); rintro e1 _ ⟨rfl, z, rfl⟩; have zs := z.size))) | (at_builtin; refine wpList_append_own_at _ rfl _ _ 47 rfl w.heap.size 57 i0 (.agg #[.int .i64 0, .int .i64 0, .string ⟨#[]⟩]) 3 32 Tryz.underlying47 hi hz0 hz1 hz2 rfl (by decide) _ 1 (Vl.cells Vl.z) rfl (ownV_later (ownV_later (ownV_later HO.out y.below) z.below) (by repeat first|with_reducible exact Below.refl _ _|with_reducible refine Below.setCell ?_ (by first|omega|(simp;done)|(simp;omega)) _|with_reducible refine Below.alloc ?_ (by first|omega|(simp;done)|(simp;omega)) _|with_reducible refine Below.drew ?_|with_reducible refine Ext.on _ ?_ (by first|omega|(simp;done)|(simp;omega)))) ⟨z.val.heap.size, 0, none⟩ 2 2 (Vl.cells ⟨2, 0, ⟨#[]⟩⟩ ++ Vl.cells ⟨2, 1, ⟨#[]⟩⟩) rfl rfl (cells_new' _ _ _) (by intro u hu; rcases List.mem_append.1 hu with hu | hu <;> exact Vl.one _ u hu) (by unfold maxLen; omega) (by omega) (by simp at ys zs ⊢; omega) ?_; intro v3 w3 hown3 hg3 _ hat3; have HO3 := Lib.hid hown3; have HG := Lib.hid hg3; have HA := Lib.hid hat3; clear hown3 hg3 hat3))
  obtain ⟨a3, cap3, hu, hrow⟩ := rowT_of (vs := valsB) HO3.out (fun v hv => by have := okV_size (okV_B v hv); unfold maxLen; omega) hT
  have HR := Lib.hid hrow
  clear hrow
  subst hu
  go_ret
  have ys2 : w.heap.size + 1 ≤ y.val.heap.size := by simpa using ys
  refine ⟨valsB, a3, cap3, rfl, ⟨by decide, by decide, okV_B⟩, HR.out, Cls.of (Below.grown (w := z.val.alloc _) ?_ HG.out (by simp at ys zs ⊢; omega) (fun k hk => (HO.out.lt k hk).1))⟩
  repeat first|with_reducible exact Below.refl _ _|with_reducible refine Below.setCell ?_ (by first|omega|(simp;done)|(simp;omega)) _|with_reducible refine Below.alloc ?_ (by first|omega|(simp;done)|(simp;omega)) _|with_reducible refine Below.drew ?_|with_reducible refine Ext.on _ ?_ (by first|omega|(simp;done)|(simp;omega))
theorem Values_calls (T : Nat) (k : Int) (w : World) (hT : T < w.heap.size) (hk : k = 1 ∨ k = 2 ∨ k = 3) :
    Calls Tryz.prog 43 #[.int .i64 k] w fun e w' => ∃ (l : List Vl) (a : Option Addr) (cap : Nat), e = .returned (.slice a l.length cap) ∧ ValuesOf k l ∧ RowT T w' a l.length cap l ∧ Cls w w' := by
  rcases hk with rfl | rfl | rfl
  · exact Values_1 T w hT
  · exact Values_2 T w hT
  · exact Values_3 T w hT
end Go.Proofs.YtdmhmlnfoocnjaaGreatDoor
set_option linter.unusedVariables false
namespace Go.Proofs.YtdmhmlnfoocnjaaGreatDoor
open Go Go.RowKit Go.Deep
theorem getV_mem {l : List Vl} {i : Nat} (h : i < l.length) : l.getD i Vl.z ∈ l := by
  simp [List.getD, h]
theorem RowT.open_ {T : Nat} {w : World} {a : Option Addr} {len cap : Nat} {row : List Vl} (h : RowT T w a len cap row) (hl : 0 < len) : ∃ b off, a = some ⟨b, off, none⟩ ∧ b ≠ T ∧ b < w.heap.size ∧ ∀ i, i < len →
    w.cell? ⟨b, off + i * 3, none⟩ = some (.int .i64 (row.getD i Vl.z).k) ∧ w.cell? ⟨b, off + i * 3 + 1, none⟩ = some (.int .i64 (row.getD i Vl.z).n) ∧ w.cell? ⟨b, off + i * 3 + 2, none⟩ = some (.string (row.getD i Vl.z).s) := by
  obtain ⟨b, off, rfl, hT, hb, hc⟩ := h.2.2.2.2.resolve_left (by omega)
  exact ⟨b, off, rfl, by omega, hb, hc⟩
theorem RowT.le {T : Nat} {w : World} {a : Option Addr} {len cap : Nat} {row : List Vl} (h : RowT T w a len cap row) : len ≤ cap := h.2.1
theorem RowT.max {T : Nat} {w : World} {a : Option Addr} {len cap : Nat} {row : List Vl} (h : RowT T w a len cap row) : cap ≤ maxLen := h.2.2.1
theorem free_of_row {w : World} {b : Nat} {cs : Array Value} {t : TypeId} (h : w.heap[b]? = some (.cells cs t (0, 0))) (i : Nat) : w.frozen? ⟨b, i, none⟩ = false := by simp [World.frozen?, h]
theorem fresh_at {w : World} {cs : Array Value} {t : TypeId} (y : Ext (w.alloc (.cells cs t))) (i : Nat) (h : i < cs.size) : y.val.frozen? ⟨w.heap.size, i, none⟩ = false ∧ y.val.cell? ⟨w.heap.size, i, none⟩ = some cs[i] := by
  have hb : y.val.heap[w.heap.size]? = some (.cells cs t (0, 0)) := (y.below.block _ (by simp)).trans (heap_alloc_new w _)
  exact ⟨free_of_row hb i, by rw [cell_of_row _ _ _ _ _ (0, 0) hb]; simp [h]⟩
theorem fresh3 {T m : Nat} {w : World} {a0 a1 a2 : Value} {t : TypeId} (hT : T < w.heap.size) (y : Ext (w.alloc (.cells #[a0, a1, a2] t))) (z : Lat T m y.val) :
    z.val.frozen? ⟨w.heap.size, 0, none⟩ = false ∧ z.val.frozen? ⟨w.heap.size, 1, none⟩ = false ∧ z.val.frozen? ⟨w.heap.size, 2, none⟩ = false ∧
    z.val.cell? ⟨w.heap.size, 0, none⟩ = some a0 ∧ z.val.cell? ⟨w.heap.size, 1, none⟩ = some a1 ∧ z.val.cell? ⟨w.heap.size, 2, none⟩ = some a2 := by
  have h1 : w.heap.size < y.val.heap.size := by have := y.size; simp at this; omega
  have h2 : w.heap.size ≠ T := by omega
  rw [z.frozen 0 h1 h2, z.frozen 1 h1 h2, z.frozen 2 h1 h2, z.cell 0 h1 h2, z.cell 1 h1 h2, z.cell 2 h1 h2]
  have k0 := fresh_at y 0 (by simp)
  have k1 := fresh_at y 1 (by simp)
  have k2 := fresh_at y 2 (by simp)
  exact ⟨k0.1, k1.1, k2.1, k0.2, k1.2, k2.2⟩
def IsTy (k : Int) : Prop := k = 1 ∨ k = 2 ∨ k = 3
set_option maxHeartbeats 4000000 in
set_option maxRecDepth 20000 in
theorem Value_calls (T m : Nat) (k : Int) (w : World) (h : TapeAt T m w) (hk : IsTy k) (hm : m ≤ 2 ^ 61) :
    Calls Tryz.prog 69 #[.pointer (some ⟨T, 0, none⟩), .int .i64 k, .bool true] w fun e w' => ∃ v : Vl, okV k v ∧ e = .returned (.agg #[.int .i64 v.k, .int .i64 v.n, .string v.s]) ∧ Tq T (m + 1) w w' := by
  have hT := h.lt
  have H := Lib.hid h
  have HK : Hid (k = 1 ∨ k = 2 ∨ k = 3) := Lib.hid hk
  clear h hk
  go_enter Tryz.func69, Tryz.ntmps69
  go_wp2_with (first | (go_at_call 43; ((with_reducible refine (Values_calls T k _ (by simp; omega) HK.out).mono ?_); rintro e1 w1 hq; obtain ⟨l, a, cap, rfl, hl, hrow, y, rfl⟩ := hq; have h3 := hl.1; have h13 := hl.2.1; obtain ⟨b, off, rfl, hbT, hb2, hcs⟩ := hrow.open_ (by omega); have HV := Lib.hid hl.2.2; have HC := Lib.hid hcs; have hle := hrow.le; have hmax := hrow.max; unfold maxLen at hmax; clear hl hrow hcs; have ys := y.size)) | (go_at_call 21; ((with_reducible refine (Next_calls T m _ _ ((H.out.later ((Below.refl _ _).alloc (Nat.le_refl _) _)).later y.below) (by omega) (by omega) (by omega)).mono ?_); rintro e1 w1 hq; obtain ⟨r, rfl, hr, z, rfl⟩ := hq; have zs := z.size; have hr2 : r < l.length := (by omega); have hat := HC.out r hr2; obtain ⟨q0, q1, q2⟩ := hat; have hok := Lib.hid (HV.out _ (getV_mem hr2)); clear hr; generalize l.getD r Vl.z = v at q0 q1 q2 hok; obtain ⟨f0, f1, f2, c0, c1, c2⟩ := fresh3 hT y z; have ys2 : w.heap.size + 1 ≤ y.val.heap.size := (by simpa using ys))))
  refine ret_ex rfl ?_
  simp [results, Tryz.results69, go_sem, c0, c1, c2]
  refine ⟨v, hok.out, ⟨rfl, rfl, rfl⟩, Tq.of ?_ (z.at_.upto ?_)⟩
  · repeat first|with_reducible exact Tp.refl _ _|with_reducible refine Tp.setCell ?_ (by first|(left;omega)|(left;simp;done)|(left;simp;omega)) _|with_reducible refine Tp.alloc ?_ _|with_reducible refine Tp.drew ?_|with_reducible refine Lat.on _ ?_|with_reducible refine Tp.ext ?_ _
  · repeat first|with_reducible exact Below.refl _ _|with_reducible refine Below.setCell ?_ (by first|omega|(simp;done)|(simp;omega)) _|with_reducible refine Below.alloc ?_ (by first|omega|(simp;done)|(simp;omega)) _|with_reducible refine Below.drew ?_|with_reducible refine Ext.on _ ?_ (by first|omega|(simp;done)|(simp;omega))
end Go.Proofs.YtdmhmlnfoocnjaaGreatDoor
set_option linter.unusedVariables false
namespace Go.Proofs.YtdmhmlnfoocnjaaGreatDoor
open Go Go.RowKit
def cOp (k : Int) : Int := if k = 1 then 2 else if k = 2 then 3 else if k = 3 then 4 else 1
def cTy (k t : Int) : Int := if k = 1 then 0 else if k = 2 then 0 else if k = 3 then 0 else t
def cNum (k n : Int) : Int := if k = 1 then n else if k = 2 then n else 0
def cTxt (k : Int) (s : ByteArray) : ByteArray := if k = 3 then s else ⟨#[]⟩
set_option maxHeartbeats 1000000 in
theorem rConstant_calls (k n : Int) (s : ByteArray) (t : Int) (w : World) :
    Calls Tryz.prog 67 #[.agg #[.int .i64 k, .int .i64 n, .string s], .int .i64 t] w fun r w' => r = .returned (.agg #[.int .i64 (cOp k), .int .i64 (cTy k t), .int .i64 (cNum k n), .string (cTxt k s), .int .i64 0, .slice none 0 0]) ∧ Cls w w' := by
  by_cases h1 : k = 1
  · subst h1
    go_enter Tryz.func67, Tryz.ntmps67
    go_wp2_with fail
    all_goals
      refine ret_ex rfl ?_
      simp [results, Tryz.results67, go_sem]
      refine ⟨⟨rfl, rfl, rfl, rfl⟩, Cls.of ?_⟩
      repeat first|with_reducible exact Below.refl _ _|with_reducible refine Below.setCell ?_ (by first|omega|(simp;done)|(simp;omega)) _|with_reducible refine Below.alloc ?_ (by first|omega|(simp;done)|(simp;omega)) _|with_reducible refine Below.drew ?_|with_reducible refine Ext.on _ ?_ (by first|omega|(simp;done)|(simp;omega))
  · by_cases h2 : k = 2
    · subst h2
      go_enter Tryz.func67, Tryz.ntmps67
      go_wp2_with fail
      all_goals
        refine ret_ex rfl ?_
        simp [results, Tryz.results67, go_sem]
        refine ⟨⟨rfl, rfl, rfl, rfl⟩, Cls.of ?_⟩
        repeat first|with_reducible exact Below.refl _ _|with_reducible refine Below.setCell ?_ (by first|omega|(simp;done)|(simp;omega)) _|with_reducible refine Below.alloc ?_ (by first|omega|(simp;done)|(simp;omega)) _|with_reducible refine Below.drew ?_|with_reducible refine Ext.on _ ?_ (by first|omega|(simp;done)|(simp;omega))
    · by_cases h3 : k = 3
      · subst h3
        go_enter Tryz.func67, Tryz.ntmps67
        go_wp2_with fail
        all_goals
          refine ret_ex rfl ?_
          simp [results, Tryz.results67, go_sem]
          refine ⟨⟨rfl, rfl, rfl, rfl⟩, Cls.of ?_⟩
          repeat first|with_reducible exact Below.refl _ _|with_reducible refine Below.setCell ?_ (by first|omega|(simp;done)|(simp;omega)) _|with_reducible refine Below.alloc ?_ (by first|omega|(simp;done)|(simp;omega)) _|with_reducible refine Below.drew ?_|with_reducible refine Ext.on _ ?_ (by first|omega|(simp;done)|(simp;omega))
      · have b1 : (k == 1) = false := by simpa using h1
        have b2 : (k == 2) = false := by simpa using h2
        have b3 : (k == 3) = false := by simpa using h3
        have H1 : Hid (cOp k = 1 ∧ cTy k t = t ∧ cNum k n = 0 ∧ cTxt k s = ⟨#[]⟩) := Lib.hid (by simp [cOp, cTy, cNum, cTxt, h1, h2, h3])
        clear h1 h2 h3
        go_enter Tryz.func67, Tryz.ntmps67
        go_wp2_with fail
        all_goals
          refine ret_ex rfl ?_
          obtain ⟨e1, e2, e3, e4⟩ := H1.out
          simp [results, Tryz.results67, go_sem, e1, e2, e3, e4]
          refine Cls.of ?_
          repeat first|with_reducible exact Below.refl _ _|with_reducible refine Below.setCell ?_ (by first|omega|(simp;done)|(simp;omega)) _|with_reducible refine Below.alloc ?_ (by first|omega|(simp;done)|(simp;omega)) _|with_reducible refine Below.drew ?_|with_reducible refine Ext.on _ ?_ (by first|omega|(simp;done)|(simp;omega))
end Go.Proofs.YtdmhmlnfoocnjaaGreatDoor
set_option linter.unusedVariables false
namespace Go.Proofs.YtdmhmlnfoocnjaaGreatDoor
open Go Go.RowKit Go.Deep
def Sig (k op x : Int) (n : Nat) : Prop :=
  (op = 27 ∧ x = k ∧ n = 2) ∨ ((6 ≤ op ∧ op ≤ 10) ∧ k = 1 ∧ x = 1 ∧ n = 2) ∨ (op = 11 ∧ k = 1 ∧ x = 1 ∧ n = 1) ∨ (op = 13 ∧ k = 1 ∧ x = 3 ∧ n = 1) ∨ (op = 12 ∧ k = 3 ∧ x = 3 ∧ n = 2) ∨
  ((op = 22 ∨ op = 23) ∧ k = 2 ∧ x = 2 ∧ n = 2) ∨ ((op = 24 ∨ op = 25) ∧ k = 2 ∧ x = 2 ∧ n = 1) ∨ (op = 21 ∧ k = 2 ∧ IsTy x ∧ n = 1) ∨ (op = 28 ∧ k = 2 ∧ IsTy x ∧ 2 ≤ n ∧ n ≤ 4) ∨ ((14 ≤ op ∧ op ≤ 20) ∧ k = 2 ∧ IsTy x ∧ n = 2)
def Ex.node (op : Int) (l : List Ex) : Ex := .mk op 0 0 ⟨#[]⟩ 0 l
inductive Made (ty : List Int) : Nat → Int → Ex → Prop
  | col {d : Nat} (k : Int) (c : Nat) (hc : c < ty.length) (h : ty.getD c 0 = k) : Made ty d k (.mk 5 0 0 ⟨#[]⟩ c [])
  | const {d : Nat} (k : Int) (v : Vl) (h : okV k v) : Made ty d k (.mk (cOp v.k) (cTy v.k k) (cNum v.k v.n) (cTxt v.k v.s) 0 [])
  | case {d : Nat} (k : Int) (c a b : Ex) (hc : Made ty d 2 c) (ha : Made ty d k a) (hb : Made ty d k b) : Made ty (d + 1) k (Ex.node 26 [c, a, b])
  | node {d : Nat} (k op x : Int) (l : List Ex) (h : Sig k op x l.length) (hl : ∀ e ∈ l, Made ty d x e) : Made ty (d + 1) k (Ex.node op l)
theorem okV_tv (t : Int) : okV 2 (tvV t) := by
  unfold tvV tvK tvN okV
  by_cases h0 : t = 0
  · subst h0; simp [vB]
  · by_cases h1 : t = 1
    · subst h1; simp [vB]
    · simp [h0, h1, vB]
theorem okV_b2i (b : Bool) : okV 2 ⟨2, b2i b, ⟨#[]⟩⟩ := by
  cases b <;> simp [okV, b2i, vB]
theorem okV_ar (op : Int) (a b : Vl) (k : Int) (hk : k = if op = 12 then 3 else 1) : okV k (arV3 op a b) := by
  refine ⟨?_, ar_valid _ _ _ _ _ _ _⟩
  show arK _ _ _ _ _ _ _ = 0 ∨ arK _ _ _ _ _ _ _ = k
  unfold arK
  subst hk
  split
  · exact .inr rfl
  · exact .inl rfl
theorem okV_len {a : Vl} (h : okV 3 a) : okV 1 (unV 13 a) := by
  unfold unV
  rw [if_neg (by decide), if_pos rfl]
  split
  · have := okV_size h
    refine ⟨.inr rfl, ?_⟩
    simp [vB]
    omega
  · exact okV_z _
theorem okV_in (v : Vl) : ∀ (l : List Vl) (acc : Vl), okV 2 acc → okV 2 (inV v l acc)
  | [], acc, h => h
  | x :: r, acc, h => okV_in v r _ (okV_tv _)
theorem okV_bi {k op x : Int} {a b : Vl} (hs : Sig k op x 2) (h28 : op ≠ 28) (ha : okV x a) (hb : okV x b) : okV k (biV op a b) := by
  unfold biV
  unfold Sig at hs
  rcases hs with ⟨rfl, rfl, _⟩ | ⟨⟨h1, h2⟩, rfl, rfl, _⟩ | ⟨_, _, _, h⟩ | ⟨_, _, _, h⟩ | ⟨rfl, rfl, rfl, _⟩ | ⟨h | h, rfl, rfl, _⟩ | ⟨_, _, _, h⟩ | ⟨_, _, _, h⟩ | ⟨h, _⟩ | ⟨⟨h1, h2⟩, rfl, hx, _⟩
  · simp only [show ¬ (27 : Int) = 14 by decide, show ¬ (27 : Int) = 15 by decide, show ¬ (27 : Int) = 16 by decide, show ¬ (27 : Int) = 17 by decide, show ¬ (27 : Int) = 18 by decide, show ¬ (27 : Int) = 19 by decide, show ¬ (27 : Int) = 20 by decide, show ¬ (27 : Int) = 22 by decide, show ¬ (27 : Int) = 23 by decide, if_false, if_true]
    split
    · exact hb
    · exact ha
  · repeat rw [if_neg (by omega)]
    exact okV_ar _ _ _ _ (by rw [if_neg (by omega)])
  · omega
  · omega
  · repeat rw [if_neg (by decide)]
    exact okV_ar _ _ _ _ rfl
  · subst h
    simp only [show ¬ (22 : Int) = 14 by decide, show ¬ (22 : Int) = 15 by decide, show ¬ (22 : Int) = 16 by decide, show ¬ (22 : Int) = 17 by decide, show ¬ (22 : Int) = 18 by decide, show ¬ (22 : Int) = 19 by decide, show ¬ (22 : Int) = 20 by decide, if_false, if_true]
    exact okV_tv _
  · subst h
    simp only [show ¬ (23 : Int) = 14 by decide, show ¬ (23 : Int) = 15 by decide, show ¬ (23 : Int) = 16 by decide, show ¬ (23 : Int) = 17 by decide, show ¬ (23 : Int) = 18 by decide, show ¬ (23 : Int) = 19 by decide, show ¬ (23 : Int) = 20 by decide, show ¬ (23 : Int) = 22 by decide, if_false, if_true]
    exact okV_tv _
  · omega
  · omega
  · exact absurd h h28
  · have : op = 14 ∨ op = 15 ∨ op = 16 ∨ op = 17 ∨ op = 18 ∨ op = 19 ∨ op = 20 := by omega
    rcases this with rfl | rfl | rfl | rfl | rfl | rfl | rfl
    all_goals
      simp
      first | exact okV_tv _ | exact okV_b2i _
theorem okV_un {k op x : Int} {a : Vl} (hs : Sig k op x 1) (ha : okV x a) : okV k (unV op a) := by
  unfold Sig at hs
  rcases hs with ⟨_, _, h⟩ | ⟨_, _, _, h⟩ | ⟨rfl, rfl, rfl, _⟩ | ⟨rfl, rfl, rfl, _⟩ | ⟨_, _, _, h⟩ | ⟨_, _, _, h⟩ | ⟨rfl | rfl, rfl, rfl, _⟩ | ⟨rfl, rfl, _, _⟩ | ⟨_, _, _, h, _⟩ | ⟨_, _, _, h⟩
  · omega
  · omega
  · exact okV_ar 7 _ _ 1 rfl
  · exact okV_len ha
  · omega
  · omega
  · exact okV_tv _
  · exact okV_b2i _
  · exact okV_b2i _
  · omega
  · omega
def RowTy (ty : List Int) (row : List Vl) : Prop := row.length = ty.length ∧ ∀ i, i < ty.length → okV (ty.getD i 0) (row.getD i Vl.z)
theorem okV_const {k : Int} {v : Vl} (row : List Vl) (h : okV k v) : okV k (opV (cOp v.k) (cNum v.k v.n) (cTxt v.k v.s) 0 row []) := by
  obtain ⟨vk, vn, vs⟩ := v
  obtain ⟨h1, h2⟩ := h
  simp only at h1 h2 ⊢
  by_cases k0 : vk = 0
  · subst k0; exact okV_z k
  · by_cases k1 : vk = 1
    · subst k1
      have hn := vB_num h2
      refine ⟨h1, ?_⟩
      show vB 1 vn ⟨#[]⟩ = true
      simp [vB]; exact hn
    · by_cases k2 : vk = 2
      · subst k2
        refine ⟨h1, ?_⟩
        show vB 2 vn ⟨#[]⟩ = true
        simp [vB] at h2 ⊢
        exact h2.1
      · by_cases k3 : vk = 3
        · subst k3
          obtain ⟨hn, _⟩ := vB_text h2
          subst hn
          exact ⟨h1, h2⟩
        · simp [vB, k0, k1, k2, k3] at h2
theorem sig_range {k op x : Int} {n : Nat} (h : Sig k op x n) : 6 ≤ op ∧ op ≤ 28 ∧ op ≠ 26 := by
  unfold Sig at h; omega
theorem sig_takes {k op x : Int} {n : Nat} (h : Sig k op x n) : takesO op n = true := by
  unfold Sig at h
  rcases h with ⟨rfl, _, rfl⟩ | ⟨⟨h1, h2⟩, _, _, rfl⟩ | ⟨rfl, _, _, rfl⟩ | ⟨rfl, _, _, rfl⟩ | ⟨rfl, _, _, rfl⟩ | ⟨rfl | rfl, _, _, rfl⟩ | ⟨rfl | rfl, _, _, rfl⟩ | ⟨rfl, _, _, rfl⟩ | ⟨rfl, _, _, h, _⟩ | ⟨⟨h1, h2⟩, _, _, rfl⟩
  · rfl
  · have : op = 6 ∨ op = 7 ∨ op = 8 ∨ op = 9 ∨ op = 10 := by omega
    rcases this with rfl | rfl | rfl | rfl | rfl <;> rfl
  · rfl
  · rfl
  · rfl
  · rfl
  · rfl
  · rfl
  · rfl
  · rfl
  · simp [takesO, oneB, h]
  · have : op = 14 ∨ op = 15 ∨ op = 16 ∨ op = 17 ∨ op = 18 ∨ op = 19 ∨ op = 20 := by omega
    rcases this with rfl | rfl | rfl | rfl | rfl | rfl | rfl <;> rfl
theorem sig_one {k op x : Int} {n : Nat} (h : Sig k op x n) (h28 : op ≠ 28) : n = if oneB op = true then 1 else 2 := by
  have ht := sig_takes h
  have hr := sig_range h
  unfold takesO at ht
  rw [if_neg (by omega)] at ht
  split at ht
  · rename_i h1; rw [if_pos h1]; simpa using ht
  · rename_i h1
    rw [if_neg h1]
    rw [if_neg hr.2.2] at ht
    try rw [if_neg h28] at ht
    simpa using ht
theorem Made.value {ty : List Int} {row : List Vl} (hr : RowTy ty row) {d : Nat} {k : Int} {e : Ex} (h : Made ty d k e) : okV k (evalE e row) := by
  induction h with
  | col k c hc h =>
    subst h
    rw [evalE_eq]
    simp only [Ex.op, Ex.kids, Ex.col, Ex.num, Ex.text, List.map_nil, opV]
    rw [if_neg (by decide), if_neg (by decide)]
    have h1 : takesO 5 ([] : List Vl).length = true := rfl
    rw [if_neg (by rw [h1]; decide), if_pos trivial]
    unfold colV
    have hl := hr.1
    rw [if_neg (by omega), if_neg (by omega)]
    exact hr.2 c hc
  | const k v h =>
    rw [evalE_eq]
    simp only [Ex.op, Ex.kids, Ex.col, Ex.num, Ex.text, List.map_nil]
    exact okV_const row h
  | case k c a b hc ha hb ihc iha ihb =>
    rw [evalE_eq]
    simp only [Ex.node, Ex.op, Ex.kids, Ex.col, Ex.num, Ex.text, List.map_cons, List.map_nil, opV]
    rw [if_neg (by decide), if_neg (by decide)]
    have h1 : takesO 26 [evalE c row, evalE a row, evalE b row].length = true := rfl
    rw [if_neg (by rw [h1]; decide), if_neg (by decide), if_neg (by decide), if_pos trivial]
    split
    · exact iha
    · exact ihb
  | node k op x l h hl ih =>
    have hr6 := sig_range h
    have ht := sig_takes h
    rw [evalE_eq]
    show okV k (opV op 0 ⟨#[]⟩ 0 row (l.map (evalE · row)))
    unfold opV
    rw [if_neg (by omega), if_neg (by omega), if_neg (by rw [List.length_map, ht]; decide), if_neg (by omega), if_neg (by omega), if_neg hr6.2.2]
    by_cases h28 : op = 28
    · rw [if_pos h28]
      subst h28
      have hk : k = 2 := by unfold Sig at h; omega
      subst hk
      exact okV_in _ _ _ (okV_tv 0)
    · rw [if_neg h28]
      have h1 := sig_one h h28
      split at h1
      · rename_i ho
        rw [if_pos ho]
        match l, h1 with
        | [a], _ => exact okV_un h (ih a (by simp))
      · rename_i ho
        rw [if_neg ho]
        match l, h1 with
        | [a, b], _ => exact okV_bi h h28 (ih a (by simp)) (ih b (by simp))
end Go.Proofs.YtdmhmlnfoocnjaaGreatDoor
