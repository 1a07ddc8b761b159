/-
  Which systems are valid: the program's limited, rectangular, Valid.
-/
import Derived.Test.YtogjollefllajaaLFun
set_option linter.unusedVariables false
namespace Go.Proofs.Ytogjollefllajaa
open Go Go.RowKit Go.Deep
def Sy.v (y : Sy) : Value := .agg #[.slice y.U.a y.U.len y.U.cap, .slice y.R.a y.R.len y.R.cap, .slice y.B.a y.B.len y.B.cap]
/-- A row with a number beyond its limit. -/
def rowOut (y : Sy) (i : Nat) : Bool := anyB (fun j => outB (-1000000) 1000000 (y.co i j)) (y.row i).len
def limB (y : Sy) : Bool := decide (y.U.len ≤ 200) && (decide (y.R.len ≤ 100) && (!anyB (rowOut y) y.R.len && (!anyB (fun i => outB (-1000000000) 1000000000 (y.rt i)) y.B.len && !anyB (fun i => outB 0 1000000000 (y.up i)) y.U.len)))
def lenB (y : Sy) (i : Nat) : Bool := ((((y.row i).len : Nat) : Int) != ((y.U.len : Nat) : Int))
def rectB (y : Sy) : Bool := (((y.B.len : Nat) : Int) == ((y.R.len : Nat) : Int)) && !anyB (lenB y) y.R.len
def vaS (y : Sy) : Int := if limB y = true then if rectB y = true then 0 else 9 else 8
theorem three_s {W : World} {b : Nat} {a0 a1 a2 : Value} {t : TypeId} (h : W.heap[b]? = some (.cells #[a0, a1, a2] t)) : b < W.heap.size ∧ W.cell? ⟨b, 0, none⟩ = some a0 ∧ W.cell? ⟨b, 1, none⟩ = some a1 ∧ W.cell? ⟨b, 2, none⟩ = some a2 := by
  obtain ⟨h1, _, _, _, h2, h3, h4⟩ := three_b h
  exact ⟨h1, h2, h3, h4⟩
set_option maxHeartbeats 8000000 in
set_option maxRecDepth 20000 in
theorem limited_calls (y : Sy) (w : World) (h : SysA w y) :
    Calls Try.prog 20 #[y.v] w fun e w' => e = .returned (.bool (limB y)) ∧ Cls w w' := by
  obtain ⟨hU, hR, hB⟩ := h
  obtain ⟨rl, rm, hrow, hh⟩ := hR
  unfold maxLen at rm
  have C1 := Lib.hid (fun (W : World) (hb : Below w.heap.size w W) (i : Nat) (hi : i < y.R.len) => within_calls (y.row i).a (y.row i).len (y.row i).cap (y.co i) (-1000000) 1000000 W ((hrow i hi).later hb))
  have C2 := Lib.hid (fun (W : World) (hb : Below w.heap.size w W) => within_calls y.B.a y.B.len y.B.cap y.rt (-1000000000) 1000000000 W (hB.later hb))
  have C3 := Lib.hid (fun (W : World) (hb : Below w.heap.size w W) => within_calls y.U.a y.U.len y.U.cap y.up 0 1000000000 W (hU.later hb))
  have H := Lib.hid hh
  unfold limB Sy.v
  clear hU hB hh hrow
  have EP : Hid (∀ i, rowOut y i = anyB (fun j => outB (-1000000) 1000000 (y.co i j)) (y.row i).len) := Lib.hid fun i => rfl
  generalize rowOut y = p at *
  generalize anyB (fun i => outB (-1000000000) 1000000000 (y.rt i)) y.B.len = b1 at *
  generalize anyB (fun i => outB 0 1000000000 (y.up i)) y.U.len = b2 at *
  obtain ⟨⟨ua, un, uc⟩, ⟨ra, rn, rc⟩, ⟨ba, bn, bc⟩, up, row, co, rt⟩ := y
  simp only at *
  by_cases hu : un ≤ 200
  case neg =>
    have d1 : decide ((200 : Int) < ((un : Nat) : Int)) = true := decide_eq_true (by omega)
    rw [decide_eq_false hu, Bool.false_and]
    clear C1 C2 C3 H EP hu
    go_enter Try.func20, Try.ntmps20
    go_wp2_with fail
    go_ret
    refine ⟨rfl, Cls.of ?_⟩
    repeat first | with_reducible exact Below.refl _ _ | with_reducible refine Below.setCell ?_ (by first | omega | (simp; done) | (simp; omega)) _ | with_reducible refine Below.alloc ?_ (by first | omega | (simp; done) | (simp; omega)) _ | with_reducible refine Below.drew ?_ | with_reducible refine Ext.on _ ?_ (by first | omega | (simp; done) | (simp; omega))
  case pos =>
    have d1 : decide ((200 : Int) < ((un : Nat) : Int)) = false := decide_eq_false (by omega)
    rw [decide_eq_true hu, Bool.true_and]
    by_cases hr : rn ≤ 100
    case neg =>
      have d2 : decide ((100 : Int) < ((rn : Nat) : Int)) = true := decide_eq_true (by omega)
      rw [decide_eq_false hr, Bool.false_and]
      clear C1 C2 C3 H EP hu hr
      go_enter Try.func20, Try.ntmps20
      go_wp2_with fail
      go_ret
      refine ⟨rfl, Cls.of ?_⟩
      repeat first | with_reducible exact Below.refl _ _ | with_reducible refine Below.setCell ?_ (by first | omega | (simp; done) | (simp; omega)) _ | with_reducible refine Below.alloc ?_ (by first | omega | (simp; done) | (simp; omega)) _ | with_reducible refine Below.drew ?_ | with_reducible refine Ext.on _ ?_ (by first | omega | (simp; done) | (simp; omega))
    case pos =>
      have d2 : decide ((100 : Int) < ((rn : Nat) : Int)) = false := decide_eq_false (by omega)
      rw [decide_eq_true hr, Bool.true_and]
      unfold anyB
      clear hu
      go_enter Try.func20, Try.ntmps20
      go_wp2_with fail
      go_loopw [18] (fun i wr => ∃ j : Nat, j ≤ rn ∧ i = .int .i64 j ∧ Hid (fstI (p) 0 rn = fstI (p) j (rn - j)) ∧ Cls (w.alloc (.cells #[.slice ua un uc, .slice ra rn rc, .slice ba bn bc] 25)) wr) (fun i _ => rn - (intOf i).toNat)
      case atStart => exact ⟨0, Nat.zero_le _, rfl, Lib.hid rfl, Cls.of (Below.refl _ _)⟩
      case round =>
        obtain ⟨j, hj, rfl, HE, x, rfl⟩ := hrel
        have xs := x.size
        simp at xs
        by_cases hltj : j < rn
        · obtain ⟨b, off, ha, hb2, hc⟩ := H.out.resolve_left (by omega)
          subst ha
          have q0 := (x.below.cell (p := ⟨b, off + j, none⟩) (by simp; omega)).trans (((Below.refl w.heap.size w).alloc (Nat.le_refl _) _).cell (p := ⟨b, off + j, none⟩) hb2 |>.trans (hc j hltj))
          have hS : Hid (rn - j = (rn - (j + 1)) + 1) := Lib.hid (by omega)
          have K1 : Hid (∀ W, Below w.heap.size w W → Calls Try.prog 44 #[.slice (row j).a (row j).len (row j).cap, .int .i64 (-1000000), .int .i64 1000000] W fun e w' => e = .returned (.bool (!p j)) ∧ Cls W w') := Lib.hid fun W hW => by
            rw [EP.out]; exact C1.out W hW j hltj
          have hbx : b < x.val.heap.size := by omega
          clear hc H C1 C2 C3
          cases hbb : p j
          all_goals
            have HB := Lib.hid hbb
            rw [hbb] at K1
            clear hbb
            generalize row j = tj at q0 K1
            go_wp2_with (go_at_call 44; ((with_reducible refine Calls.mono (K1.out _ ?_) ?_); (focus (repeat first | with_reducible exact Below.refl _ _ | with_reducible refine Below.setCell ?_ (by first | omega | (simp; done) | (simp; omega)) _ | with_reducible refine Below.alloc ?_ (by first | omega | (simp; done) | (simp; omega)) _ | with_reducible refine Below.drew ?_ | with_reducible refine Ext.on _ ?_ (by first | omega | (simp; done) | (simp; omega)))); rintro r _ ⟨rfl, z, rfl⟩))
          · go_roundw
            case rel => exact ⟨j + 1, by omega, by go_num, Lib.hid (by rw [HE.out, hS.out, fstI_go HB.out]), Cls.step x ⟨z, rfl⟩⟩
            case measure => simp [intOf]; omega
          · go_ret
            refine ⟨ret_bool ?_, Cls.of ?_⟩
            · rw [HE.out, hS.out, fstI_stop HB.out]; simp
            · repeat first | with_reducible exact Below.refl _ _ | with_reducible refine Below.setCell ?_ (by first | omega | (simp; done) | (simp; omega)) _ | with_reducible refine Below.alloc ?_ (by first | omega | (simp; done) | (simp; omega)) _ | with_reducible refine Below.drew ?_ | with_reducible refine Ext.on _ ?_ (by first | omega | (simp; done) | (simp; omega))
        · have hz : Hid (rn - j = 0) := Lib.hid (by omega)
          obtain ⟨_, c0, c1, c2⟩ := three_s ((x.below.block w.heap.size (by simp)).trans (heap_alloc_new w _))
          have HF : Hid ((!decide (0 ≤ fstI (p) 0 rn)) = true) := Lib.hid (by rw [HE.out, hz.out]; rfl)
          clear H C1
          cases b1
          all_goals
            go_wp2_with (first | (go_at_call 44; ((with_reducible refine Calls.mono (C2.out _ ?_) ?_); (focus (repeat first | with_reducible exact Below.refl _ _ | with_reducible refine Below.setCell ?_ (by first | omega | (simp; done) | (simp; omega)) _ | with_reducible refine Below.alloc ?_ (by first | omega | (simp; done) | (simp; omega)) _ | with_reducible refine Below.drew ?_ | with_reducible refine Ext.on _ ?_ (by first | omega | (simp; done) | (simp; omega)))); rintro r _ ⟨rfl, z, rfl⟩; have zs := z.size; have zw : w.heap.size < z.val.heap.size := (by omega))) | (go_at_call 44; ((with_reducible refine Calls.mono (C3.out _ ?_) ?_); (focus (repeat first | with_reducible exact Below.refl _ _ | with_reducible refine Below.setCell ?_ (by first | omega | (simp; done) | (simp; omega)) _ | with_reducible refine Below.alloc ?_ (by first | omega | (simp; done) | (simp; omega)) _ | with_reducible refine Below.drew ?_ | with_reducible refine Ext.on _ ?_ (by first | omega | (simp; done) | (simp; omega)))); rintro r _ ⟨rfl, z2, rfl⟩)))
            go_ret
            refine ⟨ret_bool ?_, Cls.of ?_⟩
            · rw [HF.out]; simp
            · repeat first | with_reducible exact Below.refl _ _ | with_reducible refine Below.setCell ?_ (by first | omega | (simp; done) | (simp; omega)) _ | with_reducible refine Below.alloc ?_ (by first | omega | (simp; done) | (simp; omega)) _ | with_reducible refine Below.drew ?_ | with_reducible refine Ext.on _ ?_ (by first | omega | (simp; done) | (simp; omega))
end Go.Proofs.Ytogjollefllajaa
