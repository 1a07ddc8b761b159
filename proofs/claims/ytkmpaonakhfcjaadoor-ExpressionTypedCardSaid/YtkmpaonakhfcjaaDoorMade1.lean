/-
  What the tape makes: types, values of a type, rows.
-/
import Derived.Test.YtkmpaonakhfcjaaDoorTape
import Derived.Test.YtkmpaonakhfcjaaDoorRKids
set_option linter.unusedVariables false
namespace Go.Proofs.YtkmpaonakhfcjaaDoor
open Go Go.RowKit Go.Deep
def flatI (l : List Int) : List Value := l.map fun n => .int .i64 n
theorem flatI_length (l : List Int) : (flatI l).length = l.length := by simp [flatI]
theorem flatI_append (l m : List Int) : flatI (l ++ m) = flatI l ++ flatI m := by simp [flatI]
theorem int_one (n : Int) : ∀ u ∈ [Value.int .i64 n], u.oneCell' = true := by
  intro u h
  simp only [List.mem_cons, List.not_mem_nil, or_false] at h
  rcases h with rfl; rfl
theorem infoI : (Tryd.prog.info? 3).map (fun i => (i.zero, i.size, i.bytes)) = some (some (.int .i64 0), 1, 8) := by kernel_rfl
theorem cells_new' (w : World) (l : List Value) (t : TypeId) : ∀ j u, l[j]? = some u → (w.alloc (.cells l.toArray t)).cell? ((⟨w.heap.size, 0, none⟩ : Addr).add j) = some u := by
  intro j u h
  have hadd : (⟨w.heap.size, 0, none⟩ : Addr).add j = ⟨w.heap.size, j, none⟩ := by unfold Addr.add; split <;> simp_all
  rw [hadd, cell_of_row _ _ _ l.toArray t (0, 0) (heap_alloc_new w _)]
  simpa using h
/-- The slice holds these numbers, behind the tape at T. -/
def IntsAt (T : Nat) (w : World) (a : Option Addr) (len cap : Nat) (l : List Int) : Prop :=
  l.length = len ∧ len ≤ cap ∧ cap ≤ maxLen ∧ (len = 0 ∨ ∃ b off, a = some ⟨b, off, none⟩ ∧ T < b ∧ b < w.heap.size ∧ ∀ i, i < len → w.cell? ⟨b, off + i, none⟩ = some (.int .i64 (l.getD i 0)))
theorem IntsAt.tp {T : Nat} {w w' : World} {a : Option Addr} {len cap : Nat} {l : List Int} (h : IntsAt T w a len cap l) (hb : Tp T w w') : IntsAt T w' a len cap l := by
  refine ⟨h.1, h.2.1, h.2.2.1, h.2.2.2.imp id ?_⟩
  rintro ⟨b, off, ha, hT, hlt, hc⟩
  exact ⟨b, off, ha, hT, Nat.lt_of_lt_of_le hlt hb.size, fun i hi => by rw [hb.cell _ hlt (by omega)]; exact hc i hi⟩
theorem intsAt_of {T : Nat} {w : World} {base : Nat} {v : Value} {l : List Int} (h : w.ownsRow base 3 1 v l.length (flatI l)) (hT : T < base) : ∃ a cap, v = .slice a l.length cap ∧ IntsAt T w a l.length cap l := by
  rcases h.2 with ⟨rfl, h0⟩ | ⟨g, cap, cur, rfl, hb, hh, hn, hc, hr, ht⟩
  · have : l = [] := List.eq_nil_of_length_eq_zero h0
    subst this
    exact ⟨none, 0, rfl, rfl, Nat.le_refl _, Nat.zero_le _, .inl rfl⟩
  · refine ⟨some ⟨g, 0, none⟩, cap, rfl, rfl, hn, hc, .inr ⟨g, 0, rfl, by omega, (Array.getElem?_eq_some_iff.1 hh).1, fun i hi => ?_⟩⟩
    have hcell := World.ownsRow.cells h (g := g) rfl
    have hadd : ∀ j, (⟨g, 0, none⟩ : Addr).add j = ⟨g, 0 + j, none⟩ := fun j => by unfold Addr.add; split <;> simp_all
    have c0 := hcell i (.int .i64 (l.getD i 0)) (by simp [flatI, List.getD, hi])
    rw [hadd] at c0
    exact c0
/-- Types of columns. -/
def TyL (l : List Int) : Prop := ∀ t ∈ l, t = 1 ∨ t = 2 ∨ t = 3
set_option maxHeartbeats 4000000 in
set_option maxRecDepth 20000 in
theorem Types_calls (T m most : Nat) (w : World) (h : TapeAt T m w) (h1 : 1 ≤ most) (h2 : most ≤ 100) (hm : m ≤ 2 ^ 60) :
    Calls Tryd.prog 7 #[.pointer (some ⟨T, 0, none⟩), .int .i64 (most : Nat)] w fun e w' => ∃ (l : List Int) (a : Option Addr) (cap : Nat), e = .returned (.slice a l.length cap) ∧ 1 ≤ l.length ∧ l.length ≤ most ∧ TyL l ∧ IntsAt T w' a l.length cap l ∧ Tq T (m + 1 + most) w w' := by
  have hT := h.lt
  obtain ⟨i0, hi, hz0, hz1, hz2⟩ := info_parts infoI
  have H := Lib.hid h
  clear h
  go_enter Tryd.func7, Tryd.ntmps7
  go_wp2_with (go_at_call 8; ((with_reducible refine (Next_calls T m _ _ H.out (by omega) (by omega) (by omega)).mono ?_); rintro e1 w1 hq; obtain ⟨r, rfl, hr, x, rfl⟩ := hq))
  have hr' : r < most := by omega
  clear hr
  go_loopw [6, 7] (fun u i wr => ∃ (j : Nat) (l : List Int), j ≤ r + 1 ∧ i = .int .i64 j ∧ l.length = j ∧ TyL l ∧ wr.ownsRow w.heap.size 3 1 u l.length (flatI l) ∧ Tq T (m + 1 + j) w wr) (fun _ i _ => (r + 1) - (intOf i).toNat)
  case atStart => exact ⟨0, [], by omega, rfl, rfl, fun _ h => by simp at h, World.ownsRow_nil _ _ _ 1, x, rfl⟩
  case round =>
    obtain ⟨j, l, hj, rfl, hl, hty, hown, y, rfl⟩ := hrel
    have HO := Lib.hid hown
    have HY := Lib.hid hty
    have HL := Lib.hid hl
    clear hown hty hl
    by_cases hlt : j < r + 1
    · have d1 : decide ((j : Int) < (r : Int) + 1) = true := by simp; omega
      go_wp2_with (first | (go_at_call 8; ((with_reducible refine (Next_calls T (m + 1 + j) _ _ y.at_ (by omega) (by omega) (by omega)).mono ?_); rintro e1 w1 hq; obtain ⟨q, rfl, hq', z, rfl⟩ := hq; have zs := z.size; have ys := y.size)) | (at_builtin; refine wpList_append_own_at _ rfl _ _ 22 rfl w.heap.size 3 i0 (.int .i64 0) 1 8 Tryd.underlying22 hi hz0 hz1 hz2 rfl (by decide) _ l.length (flatI l) rfl (ownV_later (own_tp HO.out z.tp hT) (by repeat first | with_reducible exact Below.refl _ _ | with_reducible refine Below.setCell ?_ (by first | omega | (simp; done) | (simp; omega)) _ | with_reducible refine Below.alloc ?_ (by first | omega | (simp; done) | (simp; omega)) _ | with_reducible refine Below.drew ?_ | with_reducible refine Ext.on _ ?_ (by first | omega | (simp; done) | (simp; omega)))) ⟨z.val.heap.size, 0, none⟩ 1 1 [.int .i64 (1 + (q : Int))] rfl rfl (cells_new' _ _ _) (int_one _) (by have := HL.out; unfold maxLen; omega) (by have := HL.out; omega) (by simp; omega) ?_; intro v3 w3 hown3 hg3 _ hat3; have HO3 := Lib.hid hown3; have HG := Lib.hid hg3; have HA := Lib.hid hat3; clear hown3 hg3 hat3))
      go_roundw
      case rel =>
        refine ⟨j + 1, l ++ [1 + (q : Int)], by omega, by go_num, by rw [List.length_append, HL.out]; rfl, ?_, ?_, Tq.of ?_ ?_⟩
        · intro t ht
          rcases List.mem_append.1 ht with ht | ht
          · exact HY.out t ht
          · simp only [List.mem_cons, List.not_mem_nil, or_false] at ht; omega
        · rw [List.length_append, flatI_append]; exact HO3.out
        · exact ((z.on y.tp).alloc _).grown HG.out (fun k hk => (HO.out.lt k hk).1)
        · refine z.at_.upto (Below.grown (w := z.val.alloc _) ?_ HG.out (by simp; omega) (fun k hk => by have := (HO.out.lt k hk).1; omega))
          repeat first | with_reducible exact Below.refl _ _ | with_reducible refine Below.setCell ?_ (by first | omega | (simp; done) | (simp; omega)) _ | with_reducible refine Below.alloc ?_ (by first | omega | (simp; done) | (simp; omega)) _ | with_reducible refine Below.drew ?_ | with_reducible refine Ext.on _ ?_ (by first | omega | (simp; done) | (simp; omega))
      case measure => simp [intOf]; omega
    · have d1 : decide ((j : Int) < (r : Int) + 1) = false := by simp; omega
      obtain ⟨a3, cap3, hu, hat⟩ := intsAt_of HO.out hT
      have HT3 := Lib.hid hat
      clear hat
      have HL2 : l.length = r + 1 := by have := HL.out; omega
      have HLL := Lib.hid HL2
      clear HL2
      subst hu
      go_wp2_with fail
      go_ret
      exact ⟨l, a3, cap3, rfl, by have := HLL.out; omega, by have := HLL.out; omega, HY.out, HT3.out, Tq.of y.tp (y.at_.mono (by omega))⟩
end Go.Proofs.YtkmpaonakhfcjaaDoor
