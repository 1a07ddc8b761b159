/-
  The program's Types.
-/
import Derived.Test.YtdmhmlnfoocnjaaGreatDoorK20
import Derived.Test.YtdmhmlnfoocnjaaGreatDoorK08
import Derived.Test.YtdmhmlnfoocnjaaGreatDoorK17
set_option linter.unusedVariables false
namespace Go.Proofs.YtdmhmlnfoocnjaaGreatDoor
open Go Go.RowKit Go.Deep
set_option maxHeartbeats 4000000 in
set_option maxRecDepth 20000 in
theorem sTypes_calls (t : Tb) (w : World) (h : TbAt w t) (hl : t.cs.len ≤ 1000) :
    Calls Tryz.prog 110 #[.agg #[.string t.name, .slice t.cs.a t.cs.len t.cs.cap, .slice t.ps.a t.ps.len t.ps.cap, .slice t.us.a t.us.len t.us.cap, .slice t.fs.a t.fs.len t.fs.cap, .slice t.ks.a t.ks.len t.ks.cap]] w fun r w' => ∃ s : Sl, r = .returned s.v ∧ s.len = t.cs.len ∧ SlAt w' 1 s (intC fun i => (tyL t.col t.cs.len).getD i 0) ∧ Cls w w' := by
  obtain ⟨i0, hi, hz0, hz1, hz2⟩ := info_parts infoI
  have hle := h.cols.1
  have hmax := h.cols.2.1
  unfold maxLen at hmax
  have H := Lib.hid h.cols
  clear h
  obtain ⟨tn, ⟨sa, sn, sc⟩, f, tps, tprim, tus, tuq, tuqn, tfs, tfk, tfkn, tfkt, tks, tch⟩ := t
  simp only at hl hle hmax H ⊢
  go_enter Tryz.func110, Tryz.ntmps110
  go_wp2_with fail
  go_loopw [3, 9] (fun u i wr => ∃ j : Nat, j ≤ sn ∧ i = .int .i64 j ∧ wr.ownsRow (w.heap.size + 1) 3 1 u (tyL f j).length (flatI (tyL f j)) ∧ Cls (w.alloc (.cells #[.string tn, .slice sa sn sc, .slice tps.a tps.len tps.cap, .slice tus.a tus.len tus.cap, .slice tfs.a tfs.len tfs.cap, .slice tks.a tks.len tks.cap] 55)) wr) (fun _ i _ => sn - (intOf i).toNat)
  case atStart => exact ⟨0, Nat.zero_le _, rfl, World.ownsRow_nil _ _ _ 1, Cls.of (Below.refl _ _)⟩
  case round =>
    obtain ⟨j, hj, rfl, hown, x, rfl⟩ := hrel
    have HO := Lib.hid hown
    clear hown
    have xs := x.size
    have xs2 : w.heap.size + 1 ≤ x.val.heap.size := by simpa using xs
    have HLJ := Lib.hid (tyL_len f j)
    by_cases hlt : j < sn
    · obtain ⟨b, off, ha, hb2, hc⟩ := H.out.2.2.2 j hlt
      simp only at ha
      subst ha
      have q0 := hc 0 (by omega)
      have q1 := hc 1 (by omega)
      have q2 := hc 2 (by omega)
      simp only [Cl.cells, List.getElem?_cons_zero, List.getElem?_cons_succ, Nat.add_zero] at q0 q1 q2
      have hb1 : b < w.heap.size + 1 := by omega
      have HG0 := Lib.hid (tyL_go f j)
      clear hc
      generalize f j = c at q0 q1 q2 HG0
      go_wp2_with (at_builtin; refine wpList_append_own_at _ rfl _ _ 22 rfl (w.heap.size + 1) 3 i0 (.int .i64 0) 1 8 Tryz.underlying22 hi hz0 hz1 hz2 rfl (by decide) _ (tyL f j).length (flatI (tyL f j)) rfl (own_later' HO.out (by repeat first|with_reducible exact Below.refl _ _|with_reducible refine Below.setCell ?_ (by first|omega|(simp;done)|(simp;omega)) _|with_reducible refine Below.alloc ?_ (by first|omega|(simp;done)|(simp;omega)) _|with_reducible refine Below.drew ?_|with_reducible refine Ext.on _ ?_ (by first|omega|(simp;done)|(simp;omega)))) ⟨x.val.heap.size + 1, 0, none⟩ 1 1 [.int .i64 c.ty] rfl rfl (fun j u hu => by have h9 := cells_new' (x.val.alloc (.cells #[.string c.name, .int .i64 c.ty, .bool c.null] 62)) [.int .i64 c.ty] 3 j u hu; simpa using h9) (int_one _) (by have := HLJ.out; unfold maxLen; omega) (by have := HLJ.out; omega) (by simp; omega) ?_; intro v3 w3 hown3 hg3 _ hat3; have HO3 := Lib.hid hown3; have HG := Lib.hid hg3; clear hown3 hg3 hat3)
      go_roundw
      case rel =>
        refine ⟨j + 1, by omega, by go_num, by rw [HG0.out, List.length_append, flatI_append]; exact HO3.out, Cls.of (Below.mono (Below.grown (w := (x.val.alloc _).alloc _) ?_ HG.out (by simp; omega) (fun k hk => (HO.out.lt k hk).1)) (by simp))⟩
        repeat first|with_reducible exact Below.refl _ _|with_reducible refine Below.setCell ?_ (by first|omega|(simp;done)|(simp;omega)) _|with_reducible refine Below.alloc ?_ (by first|omega|(simp;done)|(simp;omega)) _|with_reducible refine Below.drew ?_|with_reducible refine Ext.on _ ?_ (by first|omega|(simp;done)|(simp;omega))
      case measure => simp [intOf]; omega
    · have hj2 : sn = j := by omega
      subst hj2
      obtain ⟨s, hs, hsl, hat⟩ := sl_of HO.out
      subst hs
      have hlen := tyL_len f sn
      have HS := Lib.hid hat
      have HL := Lib.hid (hsl.trans hlen)
      clear hat hsl hlen
      go_wp2_with fail
      go_ret
      refine ⟨s, rfl, HL.out, HS.out, Cls.of ?_⟩
      repeat first|with_reducible exact Below.refl _ _|with_reducible refine Below.setCell ?_ (by first|omega|(simp;done)|(simp;omega)) _|with_reducible refine Below.alloc ?_ (by first|omega|(simp;done)|(simp;omega)) _|with_reducible refine Below.drew ?_|with_reducible refine Ext.on _ ?_ (by first|omega|(simp;done)|(simp;omega))
end Go.Proofs.YtdmhmlnfoocnjaaGreatDoor
set_option linter.unusedVariables false
namespace Go.Proofs.YtdmhmlnfoocnjaaGreatDoor
open Go Go.RowKit Go.Deep
theorem NumIn.of {T : Nat} {w : World} {a : Option Addr} {len cap : Nat} {l : List Int} (h : IntsAt T w a len cap l) : NumIn w a len cap l := by
  refine ⟨h.1, h.2.1, h.2.2.1, h.2.2.2.imp id ?_⟩
  rintro ⟨b, off, ha, hT, hb, hc⟩
  exact ⟨b, off, ha, hb, hc⟩
theorem numIn_own {w : World} {base : Nat} {v : Value} {l : List Int} (h : w.ownsRow base 3 1 v l.length (flatI l)) (hT : 0 < base) : ∃ a cap, v = .slice a l.length cap ∧ NumIn w a l.length cap l := by
  obtain ⟨a, cap, h1, h2⟩ := intsAt_of h hT
  exact ⟨a, cap, h1, .of h2⟩
theorem own_later2 {w w' : World} {base size n : Nat} {e : TypeId} {v : Value} {xs : List Value} (h : w.ownsRow base e size v n xs) (hb : Below w.heap.size w w') : w'.ownsRow base e size v n xs := by
  refine ⟨h.1, h.2.imp id ?_⟩
  rintro ⟨g, cap, cur, hv, hg, hh, rest⟩
  exact ⟨g, cap, cur, hv, hg, (hb.block g (Array.getElem?_eq_some_iff.1 hh).1).trans hh, rest⟩
theorem cls_made {w w' : World} (hg : w.grownBy w' none) : Cls w w' := Cls.of (Below.grown (w := w) (Below.refl _ _) hg (Nat.le_refl _) (fun k hk => by cases hk))
theorem take_snocI {l : List Int} {j : Nat} (h : j < l.length) : l.take (j + 1) = l.take j ++ [l.getD j 0] := by
  rw [List.take_succ_eq_append_getElem h]
  simp [List.getD, h]
end Go.Proofs.YtdmhmlnfoocnjaaGreatDoor
