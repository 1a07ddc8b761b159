/-
  What a tape without numbers makes: values, columns or constants, expressions.
-/
import Derived.Test.YtbnhmjecjeifdaaDoorDTape
import Derived.Test.YtbnhmjecjeifdaaDoorTypes2
import Derived.Laws.AppendOwn
import Derived.Laws.IdiomStrings
set_option linter.unusedVariables false
namespace Go.Proofs.YtbnhmjecjeifdaaDoor
open Go Go.RowKit Go.Deep
theorem rBool_two (n : Int) (hn : n = 0 ∨ n = 1) (w : World) : Calls Tryd.prog 130 #[.int .i64 n] w fun e w' => e = .returned (.agg #[.int .i64 2, .int .i64 n, .string ⟨#[]⟩]) ∧ Cls w w' := by
  rcases hn with rfl | rfl
  all_goals
    go_enter Tryd.func130, Tryd.ntmps130
    go_wp2_with fail
    refine ret_ex rfl ?_
    simp [results, Tryd.results130, go_sem]
    refine Cls.of ?_
    repeat first | with_reducible exact Below.refl _ _ | with_reducible refine Below.setCell ?_ (by first | omega | (simp; done) | (simp; omega)) _ | with_reducible refine Below.alloc ?_ (by first | omega | (simp; done) | (simp; omega)) _ | with_reducible refine Below.drew ?_ | with_reducible refine Ext.on _ ?_ (by first | omega | (simp; done) | (simp; omega))
theorem rConst_zero (w : World) : Calls Tryd.prog 13 #[.agg #[.int .i64 0, .int .i64 0, .string ⟨#[]⟩], .int .i64 2] w fun r w' => r = .returned (.agg #[.int .i64 1, .int .i64 2, .int .i64 0, .string ⟨#[]⟩, .int .i64 0, .slice none 0 0]) ∧ Cls w w' := by
  go_enter Tryd.func13, Tryd.ntmps13
  go_wp2_with fail
  all_goals
    refine ret_ex rfl ?_
    simp [results, Tryd.results13, go_sem]
    refine Cls.of ?_
    repeat first | with_reducible exact Below.refl _ _ | with_reducible refine Below.setCell ?_ (by first | omega | (simp; done) | (simp; omega)) _ | with_reducible refine Below.alloc ?_ (by first | omega | (simp; done) | (simp; omega)) _ | with_reducible refine Below.drew ?_ | with_reducible refine Ext.on _ ?_ (by first | omega | (simp; done) | (simp; omega))
def zC : List Value := [.int .i64 0, .int .i64 0, .string ⟨#[]⟩]
def bC (n : Int) : List Value := [.int .i64 2, .int .i64 n, .string ⟨#[]⟩]
theorem infoVz : (Tryd.prog.info? 26).map (fun i => (i.zero, i.size, i.bytes)) = some (some (.agg #[.int .i64 0, .int .i64 0, .string ⟨#[]⟩]), 3, 32) := by kernel_rfl
set_option maxHeartbeats 4000000 in
set_option maxRecDepth 20000 in
theorem Values_two (w : World) :
    Calls Tryd.prog 146 #[.int .i64 2] w fun e w' => ∃ (g cap : Nat), e = .returned (.slice (some ⟨g, 0, none⟩) 3 cap) ∧ 3 ≤ cap ∧ cap ≤ maxLen ∧ w.heap.size ≤ g ∧ g < w'.heap.size ∧ (∀ j u, zC[j]? = some u → w'.cell? ⟨g, 0 + j, none⟩ = some u) ∧ Cls w w' := by
  obtain ⟨i0, hi, hz0, hz1, hz2⟩ := info_parts infoVz
  have HO : Hid ((w.alloc (.cells zC.toArray 26)).ownsRow w.heap.size 26 3 (.slice (some ⟨w.heap.size, 0, none⟩) 1 1) 1 zC) :=
    Lib.hid (World.ownsRow_lit (size := 3) w zC.toArray 1 (Nat.le_refl _) (by unfold maxLen; omega) rfl)
  go_enter Tryd.func146, Tryd.ntmps146
  go_wp2_with (first | (go_at_call 130; (first | ((with_reducible refine (rBool_two 0 (.inl rfl) _).mono ?_); rintro e1 _ ⟨rfl, y, rfl⟩; have ys := y.size) | ((with_reducible refine (rBool_two 1 (.inr rfl) _).mono ?_); rintro e1 _ ⟨rfl, z, rfl⟩; have zs := z.size))) | (at_builtin; refine wpList_append_own_at _ rfl _ _ 100 rfl w.heap.size 26 i0 (.agg #[.int .i64 0, .int .i64 0, .string ⟨#[]⟩]) 3 32 Tryd.underlying100 hi hz0 hz1 hz2 rfl (by decide) _ 1 zC rfl (own_later'_s (own_later'_s (own_later'_s HO.out y.below) z.below) (by repeat first | with_reducible exact Below.refl _ _ | with_reducible refine Below.setCell ?_ (by first | omega | (simp; done) | (simp; omega)) _ | with_reducible refine Below.alloc ?_ (by first | omega | (simp; done) | (simp; omega)) _ | with_reducible refine Below.drew ?_ | with_reducible refine Ext.on _ ?_ (by first | omega | (simp; done) | (simp; omega)))) ⟨z.val.heap.size, 0, none⟩ 2 2 (bC 0 ++ bC 1) rfl rfl (cells_new'_s _ _ _) (by intro u hu; simp [bC] at hu; rcases hu with rfl | rfl | rfl | rfl | rfl | rfl <;> rfl) (by unfold maxLen; omega) (by omega) (by simp at ys zs ⊢; omega) ?_; intro v3 w3 hown3 hg3 _ hat3; have HO3 := Lib.hid hown3; have HG := Lib.hid hg3; have HA := Lib.hid hat3; clear hown3 hg3 hat3))
  have ys2 : w.heap.size + 1 ≤ y.val.heap.size := by simpa using ys
  rcases HO3.out.2 with ⟨rfl, h0⟩ | ⟨g, cap, cur, rfl, hb, hh, hn, hc, hr, ht⟩
  · exact absurd h0 (by decide)
  go_ret
  refine ⟨g, cap, rfl, hn, hc, hb, (Array.getElem?_eq_some_iff.1 hh).1, fun j u hu => ?_, Cls.of (Below.grown (w := z.val.alloc _) ?_ HG.out (by simp at ys zs ⊢; omega) (fun k hk => (HO.out.lt k hk).1))⟩
  · have hcell := World.ownsRow.cells HO3.out (g := g) rfl j u (by
      have hj : j < 3 := by
        have h1 := (List.getElem?_eq_some_iff.1 hu).1
        exact h1
      rw [List.getElem?_append_left (by show j < 3; omega)]
      exact hu)
    have hadd : (⟨g, 0, none⟩ : Addr).add j = ⟨g, 0 + j, none⟩ := by unfold Addr.add; split <;> simp_all
    rw [hadd] at hcell
    exact hcell
  · repeat first | with_reducible exact Below.refl _ _ | with_reducible refine Below.setCell ?_ (by first | omega | (simp; done) | (simp; omega)) _ | with_reducible refine Below.alloc ?_ (by first | omega | (simp; done) | (simp; omega)) _ | with_reducible refine Below.drew ?_ | with_reducible refine Ext.on _ ?_ (by first | omega | (simp; done) | (simp; omega))
set_option maxHeartbeats 4000000 in
set_option maxRecDepth 20000 in
theorem Value_zero (T p : Nat) (w : World) (h : TapeZ T p w) (hm : p ≤ 2 ^ 61) :
    Calls Tryd.prog 98 #[.pointer (some ⟨T, 0, none⟩), .int .i64 2, .bool true] w fun e w' => e = .returned (.agg #[.int .i64 0, .int .i64 0, .string ⟨#[]⟩]) ∧ TqZ T (p + 1) w w' := by
  have hT := h.lt
  have H := Lib.hid h
  clear h
  go_enter Tryd.func98, Tryd.ntmps98
  go_wp2_with (first | (go_at_call 146; ((with_reducible refine (Values_two _).mono ?_); rintro e1 w1 hq; obtain ⟨g, cap, rfl, hle, hmax, hg1, hg2, hcs, y, rfl⟩ := hq; unfold maxLen at hmax; have hg3 := hg1; simp at hg3; have q0 := hcs 0 _ rfl; have q1 := hcs 1 _ rfl; have q2 := hcs 2 _ rfl; have HC := Lib.hid hcs; clear hcs; have ys := y.size; have hgT : g ≠ T := (by omega))) | (go_at_call 17; ((with_reducible refine (Next_zero T p _ _ ((H.out.later ((Below.refl _ _).alloc (Nat.le_refl _) _)).later y.below) (by omega) (by omega)).mono ?_); rintro e1 w1 hq; obtain ⟨rfl, z, rfl⟩ := hq; have zs := z.size; obtain ⟨b0, f0, f1, f2, c0, c1, c2⟩ := three_z ((z.tp.block w.heap.size (by omega) (by omega)).trans ((y.below.block _ (by simp)).trans (heap_alloc_new w _))))))
  refine ret_ex rfl ?_
  simp [results, Tryd.results98, go_sem, c0, c1, c2]
  refine TqZ.of ?_ (z.at_.upto ?_)
  · repeat first | with_reducible exact Tp.refl _ _ | with_reducible refine Tp.setCell ?_ (by first | (left; omega) | (left; simp; done) | (left; simp; omega)) _ | with_reducible refine Tp.alloc ?_ _ | with_reducible refine Tp.drew ?_ | with_reducible refine LatZ.on _ ?_ | with_reducible refine Tp.ext ?_ _
  · repeat first | with_reducible exact Below.refl _ _ | with_reducible refine Below.setCell ?_ (by first | omega | (simp; done) | (simp; omega)) _ | with_reducible refine Below.alloc ?_ (by first | omega | (simp; done) | (simp; omega)) _ | with_reducible refine Below.drew ?_ | with_reducible refine Ext.on _ ?_ (by first | omega | (simp; done) | (simp; omega))
set_option maxHeartbeats 4000000 in
set_option maxRecDepth 20000 in
theorem name_zero (l r : ByteArray) (hl : l.size ≤ 100) (hr : l ++ ⟨#[48]⟩ = r) (w : World) : Calls Tryd.prog 40 #[.string l, .int .i64 0] w fun e w' => e = .returned (.string r) ∧ Cls w w' := by
  subst hr
  have kc : (convert 80 9 (.slice (some ⟨w.heap.size, 0, none⟩) 1 1)).run Tryd.prog (w.alloc (.cells #[.int .u8 48] 5)) = .ok (.string ⟨#[48]⟩) (w.alloc (.cells #[.int .u8 48] 5)) := run_convert_bytes_back (P := Tryd.prog) (w.alloc (.cells #[.int .u8 48] 5)) 80 9 5 ⟨w.heap.size, 0, none⟩ 1 [48] Tryd.underlying80 Tryd.underlying5 Tryd.underlying9 (by intro j hj; have hj1 : j < 1 := hj; obtain rfl : j = 0 := (by omega); exact cells_new'_s w [.int .u8 48] 5 0 _ rfl)
  go_enter Tryd.func40, Tryd.ntmps40
  go_wp2_with fail
  go_ret
  refine ⟨rfl, Cls.of ?_⟩
  repeat first | with_reducible exact Below.refl _ _ | with_reducible refine Below.setCell ?_ (by first | omega | (simp; done) | (simp; omega)) _ | with_reducible refine Below.alloc ?_ (by first | omega | (simp; done) | (simp; omega)) _ | with_reducible refine Below.drew ?_ | with_reducible refine Ext.on _ ?_ (by first | omega | (simp; done) | (simp; omega))
end Go.Proofs.YtbnhmjecjeifdaaDoor
