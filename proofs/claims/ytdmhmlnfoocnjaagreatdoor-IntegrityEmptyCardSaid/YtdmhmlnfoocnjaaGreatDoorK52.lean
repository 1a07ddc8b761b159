/-
  The schema that the tape makes.
-/
import Derived.Test.YtdmhmlnfoocnjaaGreatDoorK20
import Derived.Test.YtdmhmlnfoocnjaaGreatDoorK47
import Derived.Test.YtdmhmlnfoocnjaaGreatDoorK51
import Derived.Deep.CutBlock
import Derived.Deep.DeepCutAuto
set_option linter.unusedVariables false
namespace Go.Proofs.YtdmhmlnfoocnjaaGreatDoor
open Go Go.RowKit Go.Deep
theorem ExprG.use {d δ B : Nat} (h : ExprG d δ B) (T m : Nat) (ty : List Int) (k : Int) (a : Option Addr) (len cap : Nat) (w : World) (dd : Int) (hd : dd = (d : Nat)) (h1 : TapeAt T m w) (h2 : IntsAt T w a len cap ty) (h3 : IsTy k) (h4 : m + B ≤ 2 ^ 60) (h5 : len ≤ 1000) :
    Calls Tryz.prog 24 #[.pointer (some ⟨T, 0, none⟩), .slice a len cap, .int .i64 k, .int .i64 dd] w fun r w' => MadeBy T (m + B) δ ty k w r w' := by
  subst hd
  exact h T m ty k a len cap w h1 h2 h3 h4 h5
theorem start_g {T m : Nat} {W Y : World} {nm : ByteArray} {ty : Nat → Int} {nl : Nat → Bool} (hT : T < W.heap.size) (hy : Below W.heap.size W Y)
    (z : Lat T m (((Y.alloc (.cells #[.string ⟨#[105, 100]⟩, .int .i64 1, .bool false] 62)).alloc (.cells #[.int .i64 0] 3)).alloc (.cells #[.string nm, .slice (some ⟨Y.heap.size, 0, none⟩) 1 1, .slice (some ⟨Y.heap.size + 1, 0, none⟩) 1 1, .slice none 0 0, .slice none 0 0, .slice none 0 0] 55))) :
    Fg T m W (Y.heap.size + 1 + 1) (Y.heap.size + 1) nm (.slice (some ⟨Y.heap.size, 0, none⟩) 1 1) (.slice none 0 0) (.slice none 0 0) (.slice none 0 0) z.val ∧ RowsG W.heap.size (Y.heap.size + 1 + 1) (.slice (some ⟨Y.heap.size, 0, none⟩) 1 1) (.slice none 0 0) (.slice none 0 0) (.slice none 0 0) (colL ty nl 0) [] [] [] z.val := by
  have hs := hy.size
  have zs := z.size
  simp at zs
  have hb : Below Y.heap.size Y (((Y.alloc (.cells #[.string ⟨#[105, 100]⟩, .int .i64 1, .bool false] 62)).alloc (.cells #[.int .i64 0] 3)).alloc (.cells #[.string nm, .slice (some ⟨Y.heap.size, 0, none⟩) 1 1, .slice (some ⟨Y.heap.size + 1, 0, none⟩) 1 1, .slice none 0 0, .slice none 0 0, .slice none 0 0] 55)) := by
    repeat first|with_reducible exact Below.refl _ _|with_reducible refine Below.setCell ?_ (by first|omega|(simp;done)|(simp;omega)) _|with_reducible refine Below.alloc ?_ (by first|omega|(simp;done)|(simp;omega)) _|with_reducible refine Below.drew ?_|with_reducible refine Ext.on _ ?_ (by first|omega|(simp;done)|(simp;omega))
  refine ⟨⟨((Tp.ofBelow hy).trans (Tp.ofBelow hb)).trans z.tp, z.at_, hT, by omega, (z.tp.block _ (by simp) (by omega)).trans (heap_alloc_at _ _ (by simp)), by omega,
    (z.tp.block _ (by simp) (by omega)).trans ((Below.heap_alloc _ _ _ (by simp)).trans (heap_alloc_at _ _ (by simp)))⟩, ?_, World.ownsRow_nil _ _ _ 1, fun r hr => by simp at hr, World.ownsRow_nil _ _ _ 2, fun r hr => by simp at hr, World.ownsRow_nil _ _ _ 6, fun r hr => by simp at hr⟩
  refine own_next (own_block (World.ownsRow_lit (size := 3) Y (Cl.cells ⟨⟨#[105, 100]⟩, 1, false⟩).toArray 1 (by omega) (by unfold maxLen; omega) rfl) fun k hk => ?_) z hT
  have hk2 : k = Y.heap.size := by
    have : some Y.heap.size = some k := hk
    injection this with e
    exact e.symm
  subst hk2
  exact (Below.heap_alloc _ _ _ (by simp; omega)).trans (Below.heap_alloc _ _ _ (by simp))
def OutAt (T : Nat) (w : World) (i m : Nat) (wr : World) : Prop := ∃ (v : Value) (tb : Nat → Tb) (los his : Nat → Nat), OutG T w i m v tb los his wr
def ColAt (T m : Nat) (W : World) (xb pb j q : Nat) (wr : World) : Prop := ∃ (cs : Value) (ty : Nat → Int) (nl : Nat → Bool), (∀ i, i < q → IsTy (ty i)) ∧ Fg T (m + 2 * q) W xb pb (nmB ⟨#[116]⟩ j) cs (.slice none 0 0) (.slice none 0 0) (.slice none 0 0) wr ∧ RowsG W.heap.size xb cs (.slice none 0 0) (.slice none 0 0) (.slice none 0 0) (colL ty nl q) [] [] [] wr
def fkL (fr : Nat) (tgt : Nat → Nat) (bs : Nat → Nat) (k : Nat) : List FR := (List.range k).map fun j => ⟨bs j, ((1 + fr + j : Nat) : Int), nmB ⟨#[116]⟩ (tgt j)⟩
def ForAt (T m : Nat) (W : World) (xb pb j fr q : Nat) (wr : World) : Prop := ∃ (cs fs : Value) (ty : Nat → Int) (nl fnl : Nat → Bool) (tgt bs : Nat → Nat), (∀ i, i < fr → IsTy (ty i)) ∧ (∀ i, i < q → tgt i < j) ∧ Fg T m W xb pb (nmB ⟨#[116]⟩ j) cs (.slice none 0 0) fs (.slice none 0 0) wr ∧ RowsG W.heap.size xb cs (.slice none 0 0) fs (.slice none 0 0) (colL ty nl fr ++ fcL fnl q) [] (fkL fr tgt bs q) [] wr
def UniAt (T m : Nat) (W : World) (xb pb j fr q : Nat) (wr : World) : Prop := ∃ (cs us fs : Value) (ty : Nat → Int) (nl fnl : Nat → Bool) (tgt bs : Nat → Nat) (ul : List UR), (∀ i, i < fr → IsTy (ty i)) ∧ (∀ i, i < q → tgt i < j) ∧ ul.length ≤ 1 ∧ (∀ r ∈ ul, 1 ≤ r.n ∧ r.n ≤ (fr : Nat)) ∧ Fg T m W xb pb (nmB ⟨#[116]⟩ j) cs us fs (.slice none 0 0) wr ∧ RowsG W.heap.size xb cs us fs (.slice none 0 0) (colL ty nl fr ++ fcL fnl q) ul (fkL fr tgt bs q) [] wr
def ChkAt (T m : Nat) (W : World) (xb pb j fr q : Nat) (wr : World) : Prop := ∃ (cs us fs ks : Value) (ty : Nat → Int) (nl fnl : Nat → Bool) (tgt bs : Nat → Nat) (ul : List UR) (rs : List Rec), (∀ i, i < fr → IsTy (ty i)) ∧ (∀ i, i < q → tgt i < j) ∧ ul.length ≤ 1 ∧ (∀ r ∈ ul, 1 ≤ r.n ∧ r.n ≤ (fr : Nat)) ∧ rs.length ≤ 1 ∧ (∀ r ∈ rs, Made ((colL ty nl fr ++ fcL fnl q).map Cl.ty) 2 2 r.e) ∧
  Fg T m W xb pb (nmB ⟨#[116]⟩ j) cs us fs ks wr ∧ RowsG W.heap.size xb cs us fs ks (colL ty nl fr ++ fcL fnl q) ul (fkL fr tgt bs q) rs wr
theorem nmB_size (l : ByteArray) (n : Nat) (hl : l.size ≤ 100) : (nmB l n).size ≤ maxLen := by
  have h1 : (⟨#[48 + UInt8.ofNat n]⟩ : ByteArray).size = 1 := rfl
  unfold nmB maxLen
  rw [ByteArray.size_append, h1]
  omega
theorem cols_ok {ty : Nat → Int} {nl fnl : Nat → Bool} {fr ff : Nat} (h : ∀ i, i < fr → IsTy (ty i)) : ∀ c ∈ colL ty nl fr ++ fcL fnl ff, c.name.size ≤ maxLen ∧ (Lit.int .i64 c.ty).wf = true := by
  intro c hc
  simp only [colL, fcL, List.mem_append, List.mem_cons, List.mem_map, List.mem_range] at hc
  rcases hc with (rfl | ⟨j, hj, rfl⟩) | ⟨j, hj, rfl⟩
  · exact ⟨by show 2 ≤ maxLen; unfold maxLen; omega, by decide⟩
  · refine ⟨nmB_size _ _ (by decide), ?_⟩
    rcases h j hj with e | e | e <;> (show (Lit.int .i64 (ty j)).wf = true; rw [e]; decide)
  · exact ⟨nmB_size _ _ (by decide), by show (Lit.int .i64 1).wf = true; decide⟩
theorem fk_ok (fr : Nat) (tgt bs : Nat → Nat) (k : Nat) : ∀ r ∈ fkL fr tgt bs k, r.nm.size ≤ maxLen := by
  intro r hr
  simp only [fkL, List.mem_map, List.mem_range] at hr
  obtain ⟨j, _, rfl⟩ := hr
  exact nmB_size _ _ (by decide)
theorem isTy_put {ty : Nat → Int} {q r : Nat} (h : ∀ i, i < q → IsTy (ty i)) (hr : r ≤ 2) {i : Nat} (hi : i < q + 1) : IsTy (put ty q (1 + (r : Int)) i) := by
  unfold put
  split
  · rcases (by omega : r = 0 ∨ r = 1 ∨ r = 2) with rfl | rfl | rfl
    · exact .inl rfl
    · exact .inr (.inl rfl)
    · exact .inr (.inr rfl)
  · exact h i (by omega)
theorem tgt_put {tgt : Nat → Nat} {q j t : Nat} (h : ∀ i, i < q → tgt i < j) (ht : t < j) {i : Nat} (hi : i < q + 1) : put tgt q t i < j := by
  unfold put
  split
  · exact ht
  · exact h i (by omega)
theorem fkL_push (fr : Nat) (tgt bs : Nat → Nat) (k t b : Nat) : fkL fr (put tgt k t) (put bs k b) (k + 1) = fkL fr tgt bs k ++ [⟨b, ((1 + fr + k : Nat) : Int), nmB ⟨#[116]⟩ t⟩] := by
  have h : (fun j => (⟨put bs k b j, ((1 + fr + j : Nat) : Int), nmB ⟨#[116]⟩ (put tgt k t j)⟩ : FR)) = fun j => (fun (j : Nat) (p : Nat × Nat) => (⟨p.1, ((1 + fr + j : Nat) : Int), nmB ⟨#[116]⟩ p.2⟩ : FR)) j (put (fun j => (bs j, tgt j)) k (b, t) j) := by
    funext j
    unfold put
    split <;> rfl
  have e := range_put (f := fun j => (bs j, tgt j)) (g := fun (j : Nat) (p : Nat × Nat) => (⟨p.1, ((1 + fr + j : Nat) : Int), nmB ⟨#[116]⟩ p.2⟩ : FR)) (k := k) (v := (b, t))
  unfold fkL
  rw [h]
  exact e
theorem fkL_len (fr : Nat) (tgt bs : Nat → Nat) (k : Nat) : (fkL fr tgt bs k).length = k := by simp [fkL]
set_option maxHeartbeats 8000000 in
set_option maxRecDepth 20000 in
theorem Schema_own (T m : Nat) (w : World) (h : TapeAt T m w) (hm : m ≤ 2 ^ 50) :
    Calls Tryz.prog 8 #[.pointer (some ⟨T, 0, none⟩)] w fun r w' => ∃ (sl : Sl) (tb : Nat → Tb), r = .returned (.agg #[.slice sl.a sl.len sl.cap]) ∧ SchG sl tb ∧ TabsAt w' sl tb ∧ SchO w' (w.heap.size + 2) sl tb ∧ Tq T (m + 1000) w w' := by
  have hT := h.lt
  have H := Lib.hid h
  clear h
  go_enter Tryz.func8, Tryz.ntmps8
  go_wp2_with (go_at_call 21; ((with_reducible refine (Next_calls T m _ _ (H.out.later (by repeat first|with_reducible exact Below.refl _ _|with_reducible refine Below.setCell ?_ (by first|omega|(simp;done)|(simp;omega)) _|with_reducible refine Below.alloc ?_ (by first|omega|(simp;done)|(simp;omega)) _|with_reducible refine Below.drew ?_|with_reducible refine Ext.on _ ?_ (by first|omega|(simp;done)|(simp;omega)))) (by omega) (by omega) (by omega)).mono ?_); rintro e1 w1 hq; obtain ⟨r0, rfl, hr0, z, rfl⟩ := hq; have HA : Hid (OutAt T w 0 (m + 1 + 200 * 0) z.val) := Lib.hid ⟨.slice none 0 0, fun _ => tbG ⟨#[]⟩ Sl.z [] 0 Sl.z [] Sl.z [] Sl.z [], fun _ => 0, fun _ => 0, z.on (by repeat first|with_reducible exact Tp.refl _ _|with_reducible refine Tp.setCell ?_ (by first|(left;omega)|(left;simp;done)|(left;simp;omega)) _|with_reducible refine Tp.alloc ?_ _|with_reducible refine Tp.drew ?_|with_reducible refine Lat.on _ ?_|with_reducible refine Tp.ext ?_ _), z.at_, ((z.tp.block _ (by simp; omega) (by omega)).trans ((Below.heap_alloc _ _ _ (by simp)).trans (heap_alloc_at _ _ rfl))), ((z.tp.block _ (by simp) (by omega)).trans (heap_alloc_at _ _ (by simp))), World.ownsRow_nil _ _ _ 6, fun j hj => by omega, fun j j' _ hj => by omega⟩; have zs := z.size; simp at zs))
  have hr02 : r0 ≤ 2 := by omega
  go_loopw [5] (fun i wr => ∃ j : Nat, i = .int .i64 j ∧ j ≤ r0 + 1 ∧ OutAt T w j (m + 1 + 200 * j) wr) (fun i _ => (r0 + 1) - (intOf i).toNat)
  case atStart => exact ⟨0, rfl, by omega, HA.out⟩
  case round =>
    obtain ⟨j, rfl, hj, ho⟩ := hrel
    obtain ⟨v, tb, los, his, ho⟩ := ho
    have HO := Lib.hid ho
    clear ho HA
    have hs := (Array.getElem?_eq_some_iff.1 HO.out.b3).1
    generalize wr = WR at HO hs ⊢
    by_cases hlt : j < r0 + 1
    · have d1 : decide ((j : Int) < 1 + (r0 : Int)) = true := by simp; omega
      go_wp2_with (first | (go_at_call 23; ((with_reducible refine (name_calls ⟨#[116]⟩ j (by decide) (by omega) _).mono ?_); rintro e1 w1 hq; obtain ⟨rfl, y, rfl⟩ := hq; have ys := y.size)) | (go_at_call 21; ((with_reducible refine (Next_calls T (m + 1 + 200 * j) _ _ (HO.out.tape.later (by repeat first|with_reducible exact Below.refl _ _|with_reducible refine Below.setCell ?_ (by first|omega|(simp;done)|(simp;omega)) _|with_reducible refine Below.alloc ?_ (by first|omega|(simp;done)|(simp;omega)) _|with_reducible refine Below.drew ?_|with_reducible refine Ext.on _ ?_ (by first|omega|(simp;done)|(simp;omega)))) (by omega) (by omega) (by omega)).mono ?_); rintro e1 w1 hq; obtain ⟨r1, rfl, hr1, z2, rfl⟩ := hq; have z2s := z2.size; simp at z2s)))
      have hr12 : r1 ≤ 2 := by omega
      have H0 : ColAt T (m + 2 + 200 * j) WR (y.val.heap.size + 1 + 1) (y.val.heap.size + 1) j 0 z2.val := by
        obtain ⟨HZ, HR⟩ := start_g (ty := fun _ => 1) (nl := fun _ => false) (T := T) (W := WR) (by omega) y.below z2
        exact ⟨_, _, _, fun i hi => by omega, HZ.more (by omega), HR⟩
      generalize z2.val = W2 at H0 z2s ⊢
      generalize y.val.heap.size + 1 + 1 = xb at H0 z2s ⊢
      generalize y.val.heap.size + 1 = pb at H0 ⊢
      generalize y.val.heap.size = cb at ⊢
      have HF0 := Lib.hid H0
      clear H0 z2s z2 y ys
      go_loopw [8] (fun k wr2 => ∃ q : Nat, k = .int .i64 q ∧ q ≤ r1 + 1 ∧ ColAt T (m + 2 + 200 * j) WR xb pb j q wr2) (fun k _ => (r1 + 1) - (intOf k).toNat)
      case atStart => exact ⟨0, rfl, by omega, HF0.out⟩
      case round =>
        clear HF0
        obtain ⟨q, rfl, hq, hc⟩ := hrel
        obtain ⟨cs, ty, nl, hty, hf, hr⟩ := hc
        have HF := Lib.hid hf
        have HR := Lib.hid hr
        have HTY := Lib.hid hty
        have hlo := hf.xlo
        clear hf hr hty
        by_cases hlt2 : q < r1 + 1
        · have d2 : decide ((q : Int) < 1 + (r1 : Int)) = true := by simp; omega
          have HX := Lib.hid HF.out.x
          obtain ⟨bx, f0, f1, f2, f3, f4, f5, c0, c1, c2, c3, c4, c5⟩ := six_z HF.out.x
          obtain ⟨i0, hi, hz0, hz1, hz2⟩ := info_parts infoCl
          go_wp2_with fail
          refine wp_region_lin_in (C := fun w' => ∃ y : Kept xb wr, w' = y.val) (fun x => kept_start bx x) (by kernel_rfl) (by kernel_rfl) ?_
          intro x0
          have x0s := x0.size
          have HF := Lib.hid (HF.out.below x0.below)
          have HR := Lib.hid (HR.out.below x0.below)
          repeat (refine lin_calm rfl ?_; intro KK hKK; go_big_quiet_step (fail); refine wpQuiet_nil ?_; refine hKK _ ?_; clear hKK KK)
          refine lin_free rfl ?_
          intro KK hKK
          go_wp2_with (go_at_call 23; ((with_reducible refine (name_calls ⟨#[99]⟩ q (by decide) (by omega) _).mono ?_); rintro e1 w1 hq; obtain ⟨rfl, y, rfl⟩ := hq; have ys := y.size; have HF := Lib.hid (HF.out.below y.below); have HR := Lib.hid (HR.out.below y.below)))
          refine hKK _ _ (.inr ⟨⟨_, HF.out.x.trans HX.out.symm⟩, rfl⟩) ?_
          clear hKK KK
          repeat (refine lin_calm rfl ?_; intro KK hKK; go_big_quiet_step (fail); refine wpQuiet_nil ?_; refine hKK _ ?_; clear hKK KK)
          refine lin_free rfl ?_
          intro KK hKK
          go_wp2_with (go_at_call 21; ((with_reducible refine (Next_calls T (m + 2 + 200 * j + 2 * q) _ _ HF.out.tape (by omega) (by omega) (by omega)).mono ?_); rintro e1 w1 hq; obtain ⟨r2, rfl, hr2, z2, rfl⟩ := hq; have z2s := z2.size; have HR := Lib.hid (HR.out.next z2 HF.out.tlt); have HF := Lib.hid (HF.out.next z2)))
          refine hKK _ _ (.inr ⟨⟨_, HF.out.x.trans HX.out.symm⟩, rfl⟩) ?_
          clear hKK KK
          repeat (refine lin_calm rfl ?_; intro KK hKK; go_big_quiet_step (fail); refine wpQuiet_nil ?_; refine hKK _ ?_; clear hKK KK)
          have hr22 : r2 ≤ 2 := by omega
          refine lin_free rfl ?_
          intro KK hKK
          go_wp2_with (go_at_call 21; ((with_reducible refine (Next_calls T (m + 2 + 200 * j + 2 * q + 1) _ _ HF.out.tape (by omega) (by omega) (by omega)).mono ?_); rintro e1 w1 hq; obtain ⟨r3, rfl, hr3, z3, rfl⟩ := hq; have z3s := z3.size; have HR := Lib.hid (HR.out.next z3 HF.out.tlt); have HF := Lib.hid (HF.out.next z3)))
          refine hKK _ _ (.inr ⟨⟨_, HF.out.x.trans HX.out.symm⟩, rfl⟩) ?_
          clear hKK KK
          repeat (refine lin_calm rfl ?_; intro KK hKK; go_big_quiet_step (fail); refine wpQuiet_nil ?_; refine hKK _ ?_; clear hKK KK)
          refine lin_free rfl ?_
          intro KK hKK
          go_wp2_with fail
          refine hKK _ _ (.inr ⟨⟨_, HF.out.x.trans HX.out.symm⟩, rfl⟩) ?_
          clear hKK KK
          refine lin_free rfl ?_
          intro KK hKK
          go_wp2_with fail
          have HF := Lib.hid (HF.out.below (w' := z3.val.alloc (.cells (Cl.cells (⟨nmB ⟨#[99]⟩ q, 1 + (r2 : Int), (r3 : Int) == 0⟩ : Cl)).toArray 62)) ((Below.refl _ _).alloc (Nat.le_refl _) _))
          have HR := Lib.hid (HR.out.below (w' := z3.val.alloc (.cells (Cl.cells (⟨nmB ⟨#[99]⟩ q, 1 + (r2 : Int), (r3 : Int) == 0⟩ : Cl)).toArray 62)) ((Below.refl _ _).alloc (Nat.le_refl _) _))
          refine hKK _ _ (.inr ⟨⟨_, HF.out.x.trans HX.out.symm⟩, rfl⟩) ?_
          clear hKK KK
          refine lin_free rfl ?_
          intro KK hKK
          go_wp2_with (at_builtin; refine wpList_append_own_at _ rfl _ _ 50 rfl WR.heap.size 62 i0 (.agg #[.string ⟨#[]⟩, .int .i64 0, .bool false]) 3 32 Tryz.underlying50 hi hz0 hz1 hz2 rfl (by decide) _ (colL ty nl q).length ((colL ty nl q).flatMap Cl.cells) rfl HR.out.c ⟨z3.val.heap.size, 0, none⟩ 1 1 (Cl.cells (⟨nmB ⟨#[99]⟩ q, 1 + (r2 : Int), (r3 : Int) == 0⟩ : Cl)) rfl rfl (cells_new' _ _ _) (by intro u hu; simp [Cl.cells] at hu; rcases hu with rfl | rfl | rfl <;> rfl) (by have := colL_len ty nl q; unfold maxLen; omega) (by have := colL_len ty nl q; omega) (by simp; omega) ?_; intro v3 w3 hown3 hg3 _ hat3; have HF := Lib.hid (HF.out.grown hg3 (fun k hk => ⟨(HR.out.c.lt k hk).1, own_ne_z HR.out.c HF.out.x (by decide) k hk, own_ne_z HR.out.c HF.out.pr (by decide) k hk⟩)); have HR := Lib.hid (HR.out.pushC hown3 hg3); obtain ⟨g3, cp3, hv3⟩ := own_slice_z hown3; subst hv3; clear hown3 hg3 hat3)
          refine hKK _ _ (.inr ⟨⟨_, HF.out.x.trans HX.out.symm⟩, rfl⟩) ?_
          clear hKK KK
          repeat (refine lin_calm rfl ?_; intro KK hKK; go_big_quiet_step (fail); refine wpQuiet_nil ?_; refine hKK _ ?_; clear hKK KK)
          refine lin_free rfl ?_
          intro KK hKK
          obtain ⟨bx2, g0, g1, _, _, _, _, k0, k1, _, _, _, _⟩ := six_z HF.out.x
          go_wp2_with fail
          refine hKK _ _ (.inl trivial) ?_
          clear hKK KK
          refine lin_nil ?_
          go_wp2_with fail
          go_roundw
          case rel => exact ⟨q + 1, by go_num, by omega, _, put ty q (1 + (r2 : Int)), put nl q ((r3 : Int) == 0), fun i hi => isTy_put HTY.out hr22 hi, (HF.out.set1 _).more (by omega), by rw [colL_push]; exact HR.out.setx HF.out.x⟩
          case measure => simp [intOf]; omega
        · have d2 : decide ((q : Int) < 1 + (r1 : Int)) = false := by simp; omega
          obtain rfl : q = r1 + 1 := by omega
          have hc1 : ((r1 + 1 : Nat) : Int) = (r1 : Int) + 1 := by omega
          rw [hc1] at d2 ⊢
          clear hc1
          have H1 : ForAt T (m + 2 + 200 * j + 2 * 3) WR xb pb j (r1 + 1) 0 wr := ⟨cs, .slice none 0 0, ty, nl, fun _ => false, fun _ => 0, fun _ => 0, HTY.out, fun i hi => by omega, HF.out.more (by omega), by simpa [fcL, fkL] using HR.out⟩
          have HF1 := Lib.hid H1
          clear H1 HF HR HTY
          go_upto_block 4 with fail
          go_cut [] (fun wx => ∃ q : Nat, q ≤ 2 ∧ ForAt T (m + 2 + 200 * j + 16) WR xb pb j (r1 + 1) q wx)
          case first =>
            go_wp2_with fail
            go_loopw [9] (fun k wr3 => ∃ q : Nat, k = .int .i64 q ∧ q ≤ 2 ∧ ForAt T (m + 2 + 200 * j + 6 + 3 * q) WR xb pb j (r1 + 1) q wr3) (fun k _ => 2 - (intOf k).toNat)
            case atStart => exact ⟨0, rfl, by omega, HF1.out⟩
            case round =>
              clear HF1
              obtain ⟨q, rfl, hq1, hc⟩ := hrel
              obtain ⟨cs, fs, ty, nl, fnl, tgt, bs, hty, htg, hf, hr⟩ := hc
              have HF := Lib.hid hf
              have HR := Lib.hid hr
              have HTY := Lib.hid hty
              have HTG := Lib.hid htg
              have hlo := hf.xlo
              clear hf hr hty htg
              by_cases hq2 : q < 2
              · have d2 : decide ((q : Int) < 2) = true := by simp; omega
                by_cases hj0 : 0 < j
                · have d3 : decide ((0 : Int) < (j : Int)) = true := by simp; omega
                  go_wp2_with (go_at_call 21; ((with_reducible refine (Next_calls T (m + 2 + 200 * j + 6 + 3 * q) _ _ HF.out.tape (by omega) (by omega) (by omega)).mono ?_); rintro e1 w1 hq; obtain ⟨rc, rfl, hrc, zc, rfl⟩ := hq; have zcs := zc.size; have HR := Lib.hid (HR.out.next zc HF.out.tlt); have HF := Lib.hid (HF.out.next zc)))
                  rotate_left
                  · go_meet
                    case rel => exact ⟨q, by omega, cs, fs, ty, nl, fnl, tgt, bs, HTY.out, HTG.out, HF.out.more (by omega), HR.out⟩
                  have HX := Lib.hid HF.out.x
                  obtain ⟨bx, f0, f1, f2, f3, f4, f5, c0, c1, c2, c3, c4, c5⟩ := six_z HF.out.x
                  obtain ⟨i0, hi, hi0, hi1, hi2⟩ := info_parts infoCl
                  have hlen : (colL ty nl (r1 + 1) ++ fcL fnl q).length = 1 + (r1 + 1) + q := by rw [List.length_append, colL_len, fcL_len]
                  refine wp_region_lin_in (C := fun w' => ∃ y : Kept xb zc.val, w' = y.val) (fun x => kept_start bx x) (by kernel_rfl) (by kernel_rfl) ?_
                  intro x0
                  have x0s := x0.size
                  have HF := Lib.hid (HF.out.below x0.below)
                  have HR := Lib.hid (HR.out.below x0.below)
                  repeat (refine lin_calm rfl ?_; intro KK hKK; go_big_quiet_step (fail); refine wpQuiet_nil ?_; refine hKK _ ?_; clear hKK KK)
                  refine lin_free rfl ?_
                  intro KK hKK
                  go_wp2_with (go_at_call 23; ((with_reducible refine (name_calls ⟨#[102]⟩ q (by decide) (by omega) _).mono ?_); rintro e1 w1 hq; obtain ⟨rfl, y, rfl⟩ := hq; have ys := y.size; have HF := Lib.hid (HF.out.below y.below); have HR := Lib.hid (HR.out.below y.below)))
                  refine hKK _ _ (.inr ⟨⟨_, HF.out.x.trans HX.out.symm⟩, rfl⟩) ?_
                  clear hKK KK
                  repeat (refine lin_calm rfl ?_; intro KK hKK; go_big_quiet_step (fail); refine wpQuiet_nil ?_; refine hKK _ ?_; clear hKK KK)
                  refine lin_free rfl ?_
                  intro KK hKK
                  go_wp2_with (go_at_call 21; ((with_reducible refine (Next_calls T (m + 2 + 200 * j + 6 + 3 * q + 1) _ _ HF.out.tape (by omega) (by omega) (by omega)).mono ?_); rintro e1 w1 hq; obtain ⟨r3, rfl, hr3, z3, rfl⟩ := hq; have z3s := z3.size; have HR := Lib.hid (HR.out.next z3 HF.out.tlt); have HF := Lib.hid (HF.out.next z3)))
                  refine hKK _ _ (.inr ⟨⟨_, HF.out.x.trans HX.out.symm⟩, rfl⟩) ?_
                  clear hKK KK
                  repeat (refine lin_calm rfl ?_; intro KK hKK; go_big_quiet_step (fail); refine wpQuiet_nil ?_; refine hKK _ ?_; clear hKK KK)
                  refine lin_free rfl ?_
                  intro KK hKK
                  go_wp2_with fail
                  refine hKK _ _ (.inr ⟨⟨_, HF.out.x.trans HX.out.symm⟩, rfl⟩) ?_
                  clear hKK KK
                  refine lin_free rfl ?_
                  intro KK hKK
                  go_wp2_with fail
                  have HF := Lib.hid (HF.out.below (w' := z3.val.alloc (.cells (Cl.cells (⟨nmB ⟨#[102]⟩ q, 1, (r3 : Int) == 0⟩ : Cl)).toArray 62)) ((Below.refl _ _).alloc (Nat.le_refl _) _))
                  have HR := Lib.hid (HR.out.below (w' := z3.val.alloc (.cells (Cl.cells (⟨nmB ⟨#[102]⟩ q, 1, (r3 : Int) == 0⟩ : Cl)).toArray 62)) ((Below.refl _ _).alloc (Nat.le_refl _) _))
                  refine hKK _ _ (.inr ⟨⟨_, HF.out.x.trans HX.out.symm⟩, rfl⟩) ?_
                  clear hKK KK
                  refine lin_free rfl ?_
                  intro KK hKK
                  go_wp2_with (at_builtin; refine wpList_append_own_at _ rfl _ _ 50 rfl WR.heap.size 62 i0 (.agg #[.string ⟨#[]⟩, .int .i64 0, .bool false]) 3 32 Tryz.underlying50 hi hi0 hi1 hi2 rfl (by decide) _ (colL ty nl (r1 + 1) ++ fcL fnl q).length ((colL ty nl (r1 + 1) ++ fcL fnl q).flatMap Cl.cells) rfl HR.out.c ⟨z3.val.heap.size, 0, none⟩ 1 1 (Cl.cells (⟨nmB ⟨#[102]⟩ q, 1, (r3 : Int) == 0⟩ : Cl)) rfl rfl (cells_new' _ _ _) (by intro u hu; simp [Cl.cells] at hu; rcases hu with rfl | rfl | rfl <;> rfl) (by have := hlen; unfold maxLen; omega) (by have := hlen; omega) (by simp; omega) ?_; intro v3 w3 hown3 hg3 _ hat3; have HF := Lib.hid (HF.out.grown hg3 (fun k hk => ⟨(HR.out.c.lt k hk).1, own_ne_z HR.out.c HF.out.x (by decide) k hk, own_ne_z HR.out.c HF.out.pr (by decide) k hk⟩)); have HR := Lib.hid (HR.out.pushC hown3 hg3); obtain ⟨g3, cp3, hv3⟩ := own_slice_z hown3; rw [hlen] at hv3; subst hv3; clear hown3 hg3 hat3)
                  refine hKK _ _ (.inr ⟨⟨_, HF.out.x.trans HX.out.symm⟩, rfl⟩) ?_
                  clear hKK KK
                  repeat (refine lin_calm rfl ?_; intro KK hKK; go_big_quiet_step (fail); refine wpQuiet_nil ?_; refine hKK _ ?_; clear hKK KK)
                  refine lin_free rfl ?_
                  intro KK hKK
                  obtain ⟨bx2, g0, g1, _, _, _, _, k0, k1, _, _, _, _⟩ := six_z HF.out.x
                  go_wp2_with fail
                  refine hKK _ _ (.inl trivial) ?_
                  clear hKK KK
                  refine lin_nil ?_
                  have HR := Lib.hid (HR.out.setx (i := 1) (v := (.slice (some ⟨g3, 0, none⟩) (1 + (r1 + 1) + q + 1) cp3)) HF.out.x)
                  have HF := Lib.hid (HF.out.set1 (.slice (some ⟨g3, 0, none⟩) (1 + (r1 + 1) + q + 1) cp3))
                  clear f0 f1 f2 f3 f4 f5 c0 c1 c2 c3 c4 c5 g0 g1 k0 k1 bx bx2 HX
                  generalize w3.setCell ⟨xb, 1, none⟩ (.slice (some ⟨g3, 0, none⟩) (1 + (r1 + 1) + q + 1) cp3) = W3 at HF HR ⊢
                  have HX := Lib.hid HF.out.x
                  obtain ⟨bx, f0, f1, f2, f3, f4, f5, c0, c1, c2, c3, c4, c5⟩ := six_z HF.out.x
                  obtain ⟨i1, hk, hk0, hk1, hk2⟩ := info_parts infoFk
                  go_wp2_with fail
                  refine wp_region_float (C := fun w' => ∃ y : Kept xb W3, w' = y.val) 6 11 [9, 10] _ (fun x => kept_start bx x) (by kernel_rfl) (by kernel_rfl) (by kernel_rfl) rfl ?_
                  intro x1
                  have x1s := x1.size
                  change lexF _ _ _ _ _ _ [0, 1, 2, 3, 4, 5, 7, 8, 9, 10, 11, 12, 13, 14, 15] _ _
                  have HF := Lib.hid (HF.out.below x1.below)
                  have HR := Lib.hid (HR.out.below x1.below)
                  repeat (refine lexF_calm_l rfl rfl rfl ?_; intro KK hKK; go_big_quiet_step (fail); refine wpQuiet_nil ?_; refine hKK _ ?_; clear hKK KK)
                  refine lexF_rival_l rfl rfl rfl rfl rfl ?_ ?_
                  · intro KK hKK
                    go_wp2_with fail
                    have HF := Lib.hid (HF.out.below (w' := x1.val.alloc (.cells #[.int .i64 (1 + ((r1 : Int) + 1) + (q : Int))] 3)) ((Below.refl _ _).alloc (Nat.le_refl _) _))
                    have HR := Lib.hid (HR.out.below (w' := x1.val.alloc (.cells #[.int .i64 (1 + ((r1 : Int) + 1) + (q : Int))] 3)) ((Below.refl _ _).alloc (Nat.le_refl _) _))
                    have HB : Hid (WR.heap.size ≤ x1.val.heap.size ∧ (x1.val.alloc (.cells #[.int .i64 (1 + ((r1 : Int) + 1) + (q : Int))] 3)).heap[x1.val.heap.size]? = some (.cells #[.int .i64 (1 + ((r1 : Int) + 1) + (q : Int))] 3)) := Lib.hid ⟨by omega, heap_alloc_new _ _⟩
                    refine hKK _ _ (.inr ⟨⟨_, HF.out.x.trans HX.out.symm⟩, rfl⟩) ?_
                    clear hKK KK
                    refine lexI_free_l rfl rfl ?_
                    intro KK hKK
                    go_wp2_with (go_at_call 21; ((with_reducible refine (Next_calls T (m + 2 + 200 * j + 6 + 3 * q + 1 + 1) _ _ HF.out.tape (by omega) (by omega) (by omega)).mono ?_); rintro e1 w1 hq; obtain ⟨rt, rfl, hrt, zt, rfl⟩ := hq; have zts := zt.size; have HR := Lib.hid (HR.out.next zt HF.out.tlt); have HB := Lib.hid (And.intro HB.out.1 ((zt.tp.block _ (Array.getElem?_eq_some_iff.1 HB.out.2).1 (by have := HB.out.1; have := HF.out.tlt; omega)).trans HB.out.2)); have HF := Lib.hid (HF.out.next zt)))
                    refine hKK _ _ (.inr ⟨⟨_, HF.out.x.trans HX.out.symm⟩, rfl⟩) ?_
                    clear hKK KK
                    refine lexI_free_l rfl rfl ?_
                    intro KK hKK
                    go_wp2_with (go_at_call 23; ((with_reducible refine (name_calls ⟨#[116]⟩ rt (by decide) (by omega) _).mono ?_); rintro e1 w1 hq; obtain ⟨rfl, y, rfl⟩ := hq; have ys := y.size; have HB := Lib.hid (And.intro HB.out.1 ((y.below.block _ (Array.getElem?_eq_some_iff.1 HB.out.2).1).trans HB.out.2)); have HF := Lib.hid (HF.out.below y.below); have HR := Lib.hid (HR.out.below y.below)))
                    refine hKK _ _ (.inr ⟨⟨_, HF.out.x.trans HX.out.symm⟩, rfl⟩) ?_
                    clear hKK KK
                    generalize y.val = W4 at HF HR HB ⊢
                    have hw4 := HF.out.tp.size
                    generalize x1.val.heap.size = bb at HB ⊢
                    refine lexI_free_l rfl rfl ?_
                    intro KK hKK
                    go_wp2_with fail
                    refine hKK _ _ (.inr ⟨⟨_, HF.out.x.trans HX.out.symm⟩, rfl⟩) ?_
                    clear hKK KK
                    refine lexI_free_l rfl rfl ?_
                    intro KK hKK
                    go_wp2_with fail
                    have HF := Lib.hid (HF.out.below ((Below.refl _ W4).alloc (Nat.le_refl _) (.cells (⟨bb, (1 + ((r1 : Int) + 1) + (q : Int)), nmB ⟨#[116]⟩ rt⟩ : FR).cells.toArray 59)))
                    have HR := Lib.hid (HR.out.below ((Below.refl _ W4).alloc (Nat.le_refl _) (.cells (⟨bb, (1 + ((r1 : Int) + 1) + (q : Int)), nmB ⟨#[116]⟩ rt⟩ : FR).cells.toArray 59)))
                    have HB := Lib.hid (And.intro HB.out.1 ((Below.heap_alloc W4 (.cells (⟨bb, (1 + ((r1 : Int) + 1) + (q : Int)), nmB ⟨#[116]⟩ rt⟩ : FR).cells.toArray 59) bb (Array.getElem?_eq_some_iff.1 HB.out.2).1).trans HB.out.2))
                    refine hKK _ _ (.inr ⟨⟨_, HF.out.x.trans HX.out.symm⟩, rfl⟩) ?_
                    clear hKK KK
                    refine lexI_free_l rfl rfl ?_
                    intro KK hKK
                    go_wp2_with (at_builtin; refine wpList_append_own_at _ rfl _ _ 52 rfl WR.heap.size 59 i1 (.agg #[.slice none 0 0, .string ⟨#[]⟩]) 2 40 Tryz.underlying52 hk hk0 hk1 hk2 rfl (by decide) _ (fkL (r1 + 1) tgt bs q).length ((fkL (r1 + 1) tgt bs q).flatMap FR.cells) rfl HR.out.f ⟨W4.heap.size, 0, none⟩ 1 1 (⟨bb, (1 + ((r1 : Int) + 1) + (q : Int)), nmB ⟨#[116]⟩ rt⟩ : FR).cells rfl rfl (cells_new' _ _ _) (by intro u hu; simp [FR.cells] at hu; rcases hu with rfl | rfl <;> rfl) (by have := fkL_len (r1 + 1) tgt bs q; unfold maxLen; omega) (by have := fkL_len (r1 + 1) tgt bs q; omega) (by simp; omega) ?_; intro v5 w5 hown5 hg5 _ hat5; have HF := Lib.hid (HF.out.grown hg5 (fun k hk => ⟨(HR.out.f.lt k hk).1, own_ne_z HR.out.f HF.out.x (by decide) k hk, own_ne_z HR.out.f HF.out.pr (by decide) k hk⟩)); have HR := Lib.hid (HR.out.pushF (c := (⟨bb, (1 + ((r1 : Int) + 1) + (q : Int)), nmB ⟨#[116]⟩ rt⟩ : FR)) hown5 hg5 HB.out); obtain ⟨g5, cp5, hv5⟩ := own_slice_z hown5; subst hv5; clear hown5 hg5 hat5)
                    refine hKK _ _ (.inr ⟨⟨_, HF.out.x.trans HX.out.symm⟩, rfl⟩) ?_
                    clear hKK KK
                    repeat (refine lexI_calm_l rfl rfl ?_; intro KK hKK; go_big_quiet_step (fail); refine wpQuiet_nil ?_; refine hKK _ ?_; clear hKK KK)
                    refine lexI_free_l rfl rfl ?_
                    intro KK hKK
                    obtain ⟨bx2, g0, g1, g2, g3', g4', _, k0, k1, k2, k3, k4, _⟩ := six_z HF.out.x
                    go_wp2_with fail
                    refine hKK _ _ (.inl rfl) ?_
                    clear hKK KK
                    refine lexI_done ?_
                    go_wp2_with fail
                    go_roundw
                    case rel => exact ⟨q + 1, by go_num, by omega, _, _, ty, nl, put fnl q ((r3 : Int) == 0), put tgt q rt, put bs q bb, HTY.out, fun i hi => tgt_put HTG.out (by omega) hi, (HF.out.set4 _).more (by omega), by rw [fcL_push, fkL_push, ← List.append_assoc, show ((1 + (r1 + 1) + q : Nat) : Int) = 1 + ((r1 : Int) + 1) + (q : Int) by omega]; exact HR.out.setx HF.out.x⟩
                    case measure => simp [intOf]; omega
                  · intro KK hKK
                    go_wp2_with (go_at_call 21; ((with_reducible refine (Next_calls T (m + 2 + 200 * j + 6 + 3 * q + 1 + 1) _ _ HF.out.tape (by omega) (by omega) (by omega)).mono ?_); rintro e1 w1 hq; obtain ⟨rt, rfl, hrt, zt, rfl⟩ := hq; have zts := zt.size; have HR := Lib.hid (HR.out.next zt HF.out.tlt); have HF := Lib.hid (HF.out.next zt)))
                    refine hKK _ _ (.inr ⟨⟨_, HF.out.x.trans HX.out.symm⟩, rfl⟩) ?_
                    clear hKK KK
                    refine lexF_rival_l rfl rfl rfl rfl rfl ?_ ?_
                    · intro KK hKK
                      go_wp2_with fail
                      have HF := Lib.hid (HF.out.below (w' := zt.val.alloc (.cells #[.int .i64 (1 + ((r1 : Int) + 1) + (q : Int))] 3)) ((Below.refl _ _).alloc (Nat.le_refl _) _))
                      have HR := Lib.hid (HR.out.below (w' := zt.val.alloc (.cells #[.int .i64 (1 + ((r1 : Int) + 1) + (q : Int))] 3)) ((Below.refl _ _).alloc (Nat.le_refl _) _))
                      have HB : Hid (WR.heap.size ≤ zt.val.heap.size ∧ (zt.val.alloc (.cells #[.int .i64 (1 + ((r1 : Int) + 1) + (q : Int))] 3)).heap[zt.val.heap.size]? = some (.cells #[.int .i64 (1 + ((r1 : Int) + 1) + (q : Int))] 3)) := Lib.hid ⟨by omega, heap_alloc_new _ _⟩
                      refine hKK _ _ (.inr ⟨⟨_, HF.out.x.trans HX.out.symm⟩, rfl⟩) ?_
                      clear hKK KK
                      refine lexI_free_l rfl rfl ?_
                      intro KK hKK
                      go_wp2_with (go_at_call 23; ((with_reducible refine (name_calls ⟨#[116]⟩ rt (by decide) (by omega) _).mono ?_); rintro e1 w1 hq; obtain ⟨rfl, y, rfl⟩ := hq; have ys := y.size; have HB := Lib.hid (And.intro HB.out.1 ((y.below.block _ (Array.getElem?_eq_some_iff.1 HB.out.2).1).trans HB.out.2)); have HF := Lib.hid (HF.out.below y.below); have HR := Lib.hid (HR.out.below y.below)))
                      refine hKK _ _ (.inr ⟨⟨_, HF.out.x.trans HX.out.symm⟩, rfl⟩) ?_
                      clear hKK KK
                      generalize y.val = W4 at HF HR HB ⊢
                      have hw4 := HF.out.tp.size
                      generalize zt.val.heap.size = bb at HB ⊢
                      refine lexI_free_l rfl rfl ?_
                      intro KK hKK
                      go_wp2_with fail
                      refine hKK _ _ (.inr ⟨⟨_, HF.out.x.trans HX.out.symm⟩, rfl⟩) ?_
                      clear hKK KK
                      refine lexI_free_l rfl rfl ?_
                      intro KK hKK
                      go_wp2_with fail
                      have HF := Lib.hid (HF.out.below ((Below.refl _ W4).alloc (Nat.le_refl _) (.cells (⟨bb, (1 + ((r1 : Int) + 1) + (q : Int)), nmB ⟨#[116]⟩ rt⟩ : FR).cells.toArray 59)))
                      have HR := Lib.hid (HR.out.below ((Below.refl _ W4).alloc (Nat.le_refl _) (.cells (⟨bb, (1 + ((r1 : Int) + 1) + (q : Int)), nmB ⟨#[116]⟩ rt⟩ : FR).cells.toArray 59)))
                      have HB := Lib.hid (And.intro HB.out.1 ((Below.heap_alloc W4 (.cells (⟨bb, (1 + ((r1 : Int) + 1) + (q : Int)), nmB ⟨#[116]⟩ rt⟩ : FR).cells.toArray 59) bb (Array.getElem?_eq_some_iff.1 HB.out.2).1).trans HB.out.2))
                      refine hKK _ _ (.inr ⟨⟨_, HF.out.x.trans HX.out.symm⟩, rfl⟩) ?_
                      clear hKK KK
                      refine lexI_free_l rfl rfl ?_
                      intro KK hKK
                      go_wp2_with (at_builtin; refine wpList_append_own_at _ rfl _ _ 52 rfl WR.heap.size 59 i1 (.agg #[.slice none 0 0, .string ⟨#[]⟩]) 2 40 Tryz.underlying52 hk hk0 hk1 hk2 rfl (by decide) _ (fkL (r1 + 1) tgt bs q).length ((fkL (r1 + 1) tgt bs q).flatMap FR.cells) rfl HR.out.f ⟨W4.heap.size, 0, none⟩ 1 1 (⟨bb, (1 + ((r1 : Int) + 1) + (q : Int)), nmB ⟨#[116]⟩ rt⟩ : FR).cells rfl rfl (cells_new' _ _ _) (by intro u hu; simp [FR.cells] at hu; rcases hu with rfl | rfl <;> rfl) (by have := fkL_len (r1 + 1) tgt bs q; unfold maxLen; omega) (by have := fkL_len (r1 + 1) tgt bs q; omega) (by simp; omega) ?_; intro v5 w5 hown5 hg5 _ hat5; have HF := Lib.hid (HF.out.grown hg5 (fun k hk => ⟨(HR.out.f.lt k hk).1, own_ne_z HR.out.f HF.out.x (by decide) k hk, own_ne_z HR.out.f HF.out.pr (by decide) k hk⟩)); have HR := Lib.hid (HR.out.pushF (c := (⟨bb, (1 + ((r1 : Int) + 1) + (q : Int)), nmB ⟨#[116]⟩ rt⟩ : FR)) hown5 hg5 HB.out); obtain ⟨g5, cp5, hv5⟩ := own_slice_z hown5; subst hv5; clear hown5 hg5 hat5)
                      refine hKK _ _ (.inr ⟨⟨_, HF.out.x.trans HX.out.symm⟩, rfl⟩) ?_
                      clear hKK KK
                      repeat (refine lexI_calm_l rfl rfl ?_; intro KK hKK; go_big_quiet_step (fail); refine wpQuiet_nil ?_; refine hKK _ ?_; clear hKK KK)
                      refine lexI_free_l rfl rfl ?_
                      intro KK hKK
                      obtain ⟨bx2, g0, g1, g2, g3', g4', _, k0, k1, k2, k3, k4, _⟩ := six_z HF.out.x
                      go_wp2_with fail
                      refine hKK _ _ (.inl rfl) ?_
                      clear hKK KK
                      refine lexI_done ?_
                      go_wp2_with fail
                      go_roundw
                      case rel => exact ⟨q + 1, by go_num, by omega, _, _, ty, nl, put fnl q ((r3 : Int) == 0), put tgt q rt, put bs q bb, HTY.out, fun i hi => tgt_put HTG.out (by omega) hi, (HF.out.set4 _).more (by omega), by rw [fcL_push, fkL_push, ← List.append_assoc, show ((1 + (r1 + 1) + q : Nat) : Int) = 1 + ((r1 : Int) + 1) + (q : Int) by omega]; exact HR.out.setx HF.out.x⟩
                      case measure => simp [intOf]; omega
                    · intro KK hKK
                      go_wp2_with (go_at_call 23; ((with_reducible refine (name_calls ⟨#[116]⟩ rt (by decide) (by omega) _).mono ?_); rintro e1 w1 hq; obtain ⟨rfl, y, rfl⟩ := hq; have ys := y.size; have HF := Lib.hid (HF.out.below y.below); have HR := Lib.hid (HR.out.below y.below)))
                      refine hKK _ _ (.inr ⟨⟨_, HF.out.x.trans HX.out.symm⟩, rfl⟩) ?_
                      clear hKK KK
                      refine lexF_now_l rfl rfl rfl rfl rfl ?_
                      intro KK hKK
                      go_wp2_with fail
                      have HF := Lib.hid (HF.out.below (w' := y.val.alloc (.cells #[.int .i64 (1 + ((r1 : Int) + 1) + (q : Int))] 3)) ((Below.refl _ _).alloc (Nat.le_refl _) _))
                      have HR := Lib.hid (HR.out.below (w' := y.val.alloc (.cells #[.int .i64 (1 + ((r1 : Int) + 1) + (q : Int))] 3)) ((Below.refl _ _).alloc (Nat.le_refl _) _))
                      have HB : Hid (WR.heap.size ≤ y.val.heap.size ∧ (y.val.alloc (.cells #[.int .i64 (1 + ((r1 : Int) + 1) + (q : Int))] 3)).heap[y.val.heap.size]? = some (.cells #[.int .i64 (1 + ((r1 : Int) + 1) + (q : Int))] 3)) := Lib.hid ⟨by omega, heap_alloc_new _ _⟩
                      refine hKK _ _ (.inr ⟨⟨_, HF.out.x.trans HX.out.symm⟩, rfl⟩) ?_
                      clear hKK KK
                      generalize y.val.alloc (.cells #[.int .i64 (1 + ((r1 : Int) + 1) + (q : Int))] 3) = W4 at HF HR HB ⊢
                      have hw4 := HF.out.tp.size
                      generalize y.val.heap.size = bb at HB ⊢
                      refine lexI_free_l rfl rfl ?_
                      intro KK hKK
                      go_wp2_with fail
                      refine hKK _ _ (.inr ⟨⟨_, HF.out.x.trans HX.out.symm⟩, rfl⟩) ?_
                      clear hKK KK
                      refine lexI_free_l rfl rfl ?_
                      intro KK hKK
                      go_wp2_with fail
                      have HF := Lib.hid (HF.out.below ((Below.refl _ W4).alloc (Nat.le_refl _) (.cells (⟨bb, (1 + ((r1 : Int) + 1) + (q : Int)), nmB ⟨#[116]⟩ rt⟩ : FR).cells.toArray 59)))
                      have HR := Lib.hid (HR.out.below ((Below.refl _ W4).alloc (Nat.le_refl _) (.cells (⟨bb, (1 + ((r1 : Int) + 1) + (q : Int)), nmB ⟨#[116]⟩ rt⟩ : FR).cells.toArray 59)))
                      have HB := Lib.hid (And.intro HB.out.1 ((Below.heap_alloc W4 (.cells (⟨bb, (1 + ((r1 : Int) + 1) + (q : Int)), nmB ⟨#[116]⟩ rt⟩ : FR).cells.toArray 59) bb (Array.getElem?_eq_some_iff.1 HB.out.2).1).trans HB.out.2))
                      refine hKK _ _ (.inr ⟨⟨_, HF.out.x.trans HX.out.symm⟩, rfl⟩) ?_
                      clear hKK KK
                      refine lexI_free_l rfl rfl ?_
                      intro KK hKK
                      go_wp2_with (at_builtin; refine wpList_append_own_at _ rfl _ _ 52 rfl WR.heap.size 59 i1 (.agg #[.slice none 0 0, .string ⟨#[]⟩]) 2 40 Tryz.underlying52 hk hk0 hk1 hk2 rfl (by decide) _ (fkL (r1 + 1) tgt bs q).length ((fkL (r1 + 1) tgt bs q).flatMap FR.cells) rfl HR.out.f ⟨W4.heap.size, 0, none⟩ 1 1 (⟨bb, (1 + ((r1 : Int) + 1) + (q : Int)), nmB ⟨#[116]⟩ rt⟩ : FR).cells rfl rfl (cells_new' _ _ _) (by intro u hu; simp [FR.cells] at hu; rcases hu with rfl | rfl <;> rfl) (by have := fkL_len (r1 + 1) tgt bs q; unfold maxLen; omega) (by have := fkL_len (r1 + 1) tgt bs q; omega) (by simp; omega) ?_; intro v5 w5 hown5 hg5 _ hat5; have HF := Lib.hid (HF.out.grown hg5 (fun k hk => ⟨(HR.out.f.lt k hk).1, own_ne_z HR.out.f HF.out.x (by decide) k hk, own_ne_z HR.out.f HF.out.pr (by decide) k hk⟩)); have HR := Lib.hid (HR.out.pushF (c := (⟨bb, (1 + ((r1 : Int) + 1) + (q : Int)), nmB ⟨#[116]⟩ rt⟩ : FR)) hown5 hg5 HB.out); obtain ⟨g5, cp5, hv5⟩ := own_slice_z hown5; subst hv5; clear hown5 hg5 hat5)
                      refine hKK _ _ (.inr ⟨⟨_, HF.out.x.trans HX.out.symm⟩, rfl⟩) ?_
                      clear hKK KK
                      repeat (refine lexI_calm_l rfl rfl ?_; intro KK hKK; go_big_quiet_step (fail); refine wpQuiet_nil ?_; refine hKK _ ?_; clear hKK KK)
                      refine lexI_free_l rfl rfl ?_
                      intro KK hKK
                      obtain ⟨bx2, g0, g1, g2, g3', g4', _, k0, k1, k2, k3, k4, _⟩ := six_z HF.out.x
                      go_wp2_with fail
                      refine hKK _ _ (.inl rfl) ?_
                      clear hKK KK
                      refine lexI_done ?_
                      go_wp2_with fail
                      go_roundw
                      case rel => exact ⟨q + 1, by go_num, by omega, _, _, ty, nl, put fnl q ((r3 : Int) == 0), put tgt q rt, put bs q bb, HTY.out, fun i hi => tgt_put HTG.out (by omega) hi, (HF.out.set4 _).more (by omega), by rw [fcL_push, fkL_push, ← List.append_assoc, show ((1 + (r1 + 1) + q : Nat) : Int) = 1 + ((r1 : Int) + 1) + (q : Int) by omega]; exact HR.out.setx HF.out.x⟩
                      case measure => simp [intOf]; omega
                · have d3 : decide ((0 : Int) < (j : Int)) = false := by simp; omega
                  go_wp2_with fail
                  go_meet
                  case rel => exact ⟨q, by omega, cs, fs, ty, nl, fnl, tgt, bs, HTY.out, HTG.out, HF.out.more (by omega), HR.out⟩
              · have d2 : decide ((q : Int) < 2) = false := by simp; omega
                go_wp2_with fail
                go_meet
                case rel => exact ⟨q, by omega, cs, fs, ty, nl, fnl, tgt, bs, HTY.out, HTG.out, HF.out.more (by omega), HR.out⟩
          case rest =>
            obtain ⟨q, hq1, hc⟩ := hcut
            obtain ⟨cs, fs, ty, nl, fnl, tgt, bs, hty, htg, hf, hr⟩ := hc
            have HF := Lib.hid hf
            have HR := Lib.hid hr
            have HTY := Lib.hid hty
            have HTG := Lib.hid htg
            have hlo := hf.xlo
            clear hf hr hty htg HF1
            go_upto_if 87 with (go_at_call 21; ((with_reducible refine (Next_calls T (m + 2 + 200 * j + 16) _ _ HF.out.tape (by omega) (by omega) (by omega)).mono ?_); rintro e1 w1 hq; obtain ⟨r4, rfl, hr4, z4, rfl⟩ := hq; have z4s := z4.size; have HR := Lib.hid (HR.out.next z4 HF.out.tlt); have HF := Lib.hid (HF.out.next z4)))
            go_cut [] (fun wx => UniAt T (m + 2 + 200 * j + 18) WR xb pb j (r1 + 1) q wx)
            case first =>
              by_cases h40 : r4 = 0
              · have d4 : ((r4 : Int) == 0) = true := by simp [h40]
                have HX := Lib.hid HF.out.x
                obtain ⟨bx, f0, f1, f2, f3, f4, f5, c0, c1, c2, c3, c4, c5⟩ := six_z HF.out.x
                obtain ⟨i0, hi, hz0, hz1, hz2⟩ := info_parts infoIs
                go_wp2_with fail
                refine wp_region_lin_in (C := fun w' => ∃ y : Kept xb z4.val, w' = y.val) (fun x => kept_start bx x) (by kernel_rfl) (by kernel_rfl) ?_
                intro x0
                have x0s := x0.size
                have HF := Lib.hid (HF.out.below x0.below)
                have HR := Lib.hid (HR.out.below x0.below)
                repeat (refine lin_calm rfl ?_; intro KK hKK; go_big_quiet_step (fail); refine wpQuiet_nil ?_; refine hKK _ ?_; clear hKK KK)
                refine lin_free rfl ?_
                intro KK hKK
                go_wp2_with (go_at_call 21; ((with_reducible refine (Next_calls T (m + 2 + 200 * j + 16 + 1) _ _ HF.out.tape (by omega) (by omega) (by omega)).mono ?_); rintro e1 w1 hq; obtain ⟨r5, rfl, hr5, z5, rfl⟩ := hq; have z5s := z5.size; have HR := Lib.hid (HR.out.next z5 HF.out.tlt); have HF := Lib.hid (HF.out.next z5)))
                refine hKK _ _ (.inr ⟨⟨_, HF.out.x.trans HX.out.symm⟩, rfl⟩) ?_
                clear hKK KK
                repeat (refine lin_calm rfl ?_; intro KK hKK; go_big_quiet_step (fail); refine wpQuiet_nil ?_; refine hKK _ ?_; clear hKK KK)
                refine lin_free rfl ?_
                intro KK hKK
                go_wp2_with fail
                have HF := Lib.hid (HF.out.below (w' := z5.val.alloc (.cells #[.int .i64 (1 + (r5 : Int))] 3)) ((Below.refl _ _).alloc (Nat.le_refl _) _))
                have HR := Lib.hid (HR.out.below (w' := z5.val.alloc (.cells #[.int .i64 (1 + (r5 : Int))] 3)) ((Below.refl _ _).alloc (Nat.le_refl _) _))
                have HB := Lib.hid (heap_alloc_new z5.val (.cells #[.int .i64 (1 + (r5 : Int))] 3))
                refine hKK _ _ (.inr ⟨⟨_, HF.out.x.trans HX.out.symm⟩, rfl⟩) ?_
                clear hKK KK
                refine lin_free rfl ?_
                intro KK hKK
                go_wp2_with fail
                have HF := Lib.hid (HF.out.below (w' := (z5.val.alloc (.cells #[.int .i64 (1 + (r5 : Int))] 3)).alloc (.cells #[.slice (some ⟨z5.val.heap.size, 0, none⟩) 1 1] 22)) ((Below.refl _ _).alloc (Nat.le_refl _) _))
                have HR := Lib.hid (HR.out.below (w' := (z5.val.alloc (.cells #[.int .i64 (1 + (r5 : Int))] 3)).alloc (.cells #[.slice (some ⟨z5.val.heap.size, 0, none⟩) 1 1] 22)) ((Below.refl _ _).alloc (Nat.le_refl _) _))
                have HB := Lib.hid ((Below.heap_alloc (z5.val.alloc (.cells #[.int .i64 (1 + (r5 : Int))] 3)) (.cells #[.slice (some ⟨z5.val.heap.size, 0, none⟩) 1 1] 22) z5.val.heap.size (by simp)).trans HB.out)
                refine hKK _ _ (.inr ⟨⟨_, HF.out.x.trans HX.out.symm⟩, rfl⟩) ?_
                clear hKK KK
                refine lin_free rfl ?_
                intro KK hKK
                go_wp2_with (at_builtin; refine wpList_append_own_at _ rfl _ _ 51 rfl WR.heap.size 22 i0 (.slice none 0 0) 1 24 Tryz.underlying51 hi hz0 hz1 hz2 rfl (by decide) _ ([] : List UR).length (([] : List UR).flatMap UR.cells) rfl HR.out.u ⟨z5.val.heap.size + 1, 0, none⟩ 1 1 [.slice (some ⟨z5.val.heap.size, 0, none⟩) 1 1] rfl rfl (cells_one_z _ _ _ (by simp)) (by intro u hu; simp at hu; rcases hu with rfl; rfl) (by unfold maxLen; simp) (by simp) (by simp; omega) ?_; intro v3 w3 hown3 hg3 _ hat3; have HF := Lib.hid (HF.out.grown hg3 (fun k hk => by cases hk)); have HR := Lib.hid (HR.out.pushU (c := ⟨z5.val.heap.size, 1 + (r5 : Int)⟩) hown3 hg3 ⟨by show WR.heap.size ≤ z5.val.heap.size; omega, HB.out⟩); obtain ⟨g3, cp3, hv3⟩ := own_slice_z hown3; subst hv3; clear hown3 hg3 hat3)
                refine hKK _ _ (.inr ⟨⟨_, HF.out.x.trans HX.out.symm⟩, rfl⟩) ?_
                clear hKK KK
                repeat (refine lin_calm rfl ?_; intro KK hKK; go_big_quiet_step (fail); refine wpQuiet_nil ?_; refine hKK _ ?_; clear hKK KK)
                refine lin_free rfl ?_
                intro KK hKK
                obtain ⟨bx2, g0, g1, g2, g3', _, _, k0, k1, k2, k3, _, _⟩ := six_z HF.out.x
                go_wp2_with fail
                refine hKK _ _ (.inl trivial) ?_
                clear hKK KK
                refine lin_nil ?_
                go_wp2_with fail
                go_meet
                case rel =>
                  exact ⟨cs, _, fs, ty, nl, fnl, tgt, bs, [⟨z5.val.heap.size, 1 + (r5 : Int)⟩], HTY.out, HTG.out, Nat.le_refl _, by intro r hr; simp at hr; subst hr; constructor <;> (show _ ≤ _; simp; omega), (HF.out.set3 _).more (by omega), HR.out.setx HF.out.x⟩
              · have d4 : ((r4 : Int) == 0) = false := by simp [h40]
                go_wp2_with fail
                go_meet
                case rel => exact ⟨cs, .slice none 0 0, fs, ty, nl, fnl, tgt, bs, [], HTY.out, HTG.out, by simp, by simp, HF.out.more (by omega), HR.out⟩
            case rest =>
              clear HF HR HTY HTG
              obtain ⟨cs, us, fs, ty, nl, fnl, tgt, bs, ul, hty, htg, hul, hun, hf, hr⟩ := hcut
              have HF := Lib.hid hf
              have HR := Lib.hid hr
              have HTY := Lib.hid hty
              have HTG := Lib.hid htg
              have HUN := Lib.hid hun
              clear hf hr hty htg hun z4 z4s hr4
              go_upto_if 100 with (go_at_call 21; ((with_reducible refine (Next_calls T (m + 2 + 200 * j + 18) _ _ HF.out.tape (by omega) (by omega) (by omega)).mono ?_); rintro e1 w1 hq; obtain ⟨r6, rfl, hr6, z6, rfl⟩ := hq; have z6s := z6.size; have HR := Lib.hid (HR.out.next z6 HF.out.tlt); have HF := Lib.hid (HF.out.next z6)))
              go_cut [] (fun wx => ChkAt T (m + 1 + 200 * (j + 1)) WR xb pb j (r1 + 1) q wx)
              case first =>
                by_cases h60 : r6 = 0
                · have d6 : ((r6 : Int) == 0) = true := by simp [h60]
                  have HX := Lib.hid HF.out.x
                  obtain ⟨⟨a1, n1, p1⟩, ⟨a2, n2, p2⟩, ⟨a3, n3, p3⟩, ⟨a4, n4, p4⟩, e1, e2, e3, e4, l1, l2, l3, l4, htb⟩ := tbI_of HR.out (nmB_size ⟨#[116]⟩ j (by decide)) HF.out.plo HF.out.pr (cols_ok HTY.out) (fk_ok _ _ _ _)
                  simp only [Sl.v] at e1 e2 e3 e4
                  subst e1 e2 e3
                  simp only [Value.slice.injEq] at e4
                  obtain ⟨rfl, rfl, rfl⟩ := e4
                  simp only at l1 l2 l3
                  have HN1 := Lib.hid l1
                  have hn1 : n1 = 1 + (r1 + 1) + q := by rw [l1, List.length_append, colL_len, fcL_len]
                  subst hn1
                  have HTB0 := Lib.hid htb
                  clear htb l1 l2 l3 l4
                  obtain ⟨bx, f0, f1, f2, f3, f4, f5, c0, c1, c2, c3, c4, c5⟩ := six_z HF.out.x
                  obtain ⟨i0, hi, hz0, hz1, hz2⟩ := info_parts infoEx
                  go_wp2_with fail
                  refine wp_region_lin_in (C := fun w' => ∃ y : Kept xb z6.val, w' = y.val) (fun x => kept_start bx x) (by kernel_rfl) (by kernel_rfl) ?_
                  intro x0
                  have x0s := x0.size
                  have HF := Lib.hid (HF.out.below x0.below)
                  have HR := Lib.hid (HR.out.below x0.below)
                  have HTB := Lib.hid (HTB0.out.carry (w' := x0.val) (fun b _ hb => x0.below.block b hb) x0s).at_
                  clear HTB0
                  have CT : Hid (Calls Tryz.prog 25 #[.agg #[.string (nmB ⟨#[116]⟩ j), .slice a1 (1 + (r1 + 1) + q) p1, .slice (some ⟨pb, 0, none⟩) 1 1, .slice a2 n2 p2, .slice a3 n3 p3, .slice none 0 0]] x0.val fun r w' => ∃ v : Value, r = .returned v ∧ w'.ownsRow (x0.val.heap.size + 1) 3 1 v (tyL (fun i => (colL ty nl (r1 + 1) ++ fcL fnl q).getD i default) (1 + (r1 + 1) + q)).length (flatI (tyL (fun i => (colL ty nl (r1 + 1) ++ fcL fnl q).getD i default) (1 + (r1 + 1) + q))) ∧ Cls x0.val w') := Lib.hid (rTypesO_calls _ x0.val HTB.out (by show 1 + (r1 + 1) + q ≤ 1000; omega))
                  rw [tyL_colOf _ _ HN1.out] at CT
                  repeat (refine lin_calm rfl ?_; intro KK hKK; go_big_quiet_step (fail); refine wpQuiet_nil ?_; refine hKK _ ?_; clear hKK KK)
                  refine lin_free rfl ?_
                  intro KK hKK
                  go_wp2_with (go_at_call 25; ((with_reducible refine (CT.out).mono ?_); rintro e1 w1 hq; obtain ⟨v, rfl, hvo, t, rfl⟩ := hq; obtain ⟨ia, ic, hv, hia⟩ := intsAt_of hvo (T := T) (by omega); rw [List.length_map, List.length_append, colL_len, fcL_len] at hv hia; subst hv; have HI := Lib.hid hia; have ts := t.size; have HF := Lib.hid (HF.out.below t.below); have HR := Lib.hid (HR.out.below t.below); clear hvo hia))
                  refine hKK _ _ (.inr ⟨⟨_, HF.out.x.trans HX.out.symm⟩, rfl⟩) ?_
                  clear hKK KK
                  repeat (refine lin_calm rfl ?_; intro KK hKK; go_big_quiet_step (fail); refine wpQuiet_nil ?_; refine hKK _ ?_; clear hKK KK)
                  refine lin_free rfl ?_
                  intro KK hKK
                  go_wp2_with (go_at_call 24; ((with_reducible refine ((Expr_gen 3 2 (by omega) (by omega)).use T (m + 2 + 200 * j + 18 + 1) ((colL ty nl (r1 + 1) ++ fcL fnl q).map Cl.ty) 2 ia _ ic _ 3 rfl HF.out.tape HI.out ty2 (by have hbud : bud 3 = 82 := rfl; omega) (by first | omega | (simp; omega))).mono ?_); rintro e1 w1 hq; obtain ⟨e, ea, en, ep, rfl, hme, hfe, hke, z7, rfl⟩ := hq; have z7s := z7.size; have hxlt := (Array.getElem?_eq_some_iff.1 HF.out.x).1; have HME := Lib.hid hme; have HFE := Lib.hid hfe; have HKE := Lib.hid (hke.carry (ok' := fun b => WR.heap.size ≤ b ∧ b ≠ xb ∧ Value.ownBlock _ ≠ some b ∧ Value.ownBlock _ ≠ some b ∧ Value.ownBlock _ ≠ some b) (Nat.le_refl _) fun b _ hb => ⟨⟨by omega, by omega, fun e => by have := (HR.out.c.lt _ e).2; omega, fun e => by have := (HR.out.u.lt _ e).2; omega, fun e => by have := (HR.out.f.lt _ e).2; omega⟩, rfl⟩); have HR := Lib.hid (HR.out.next z7 HF.out.tlt); have HF := Lib.hid (HF.out.next z7); clear hme hfe hke))
                  refine hKK _ _ (.inr ⟨⟨_, HF.out.x.trans HX.out.symm⟩, rfl⟩) ?_
                  clear hKK KK
                  refine lin_free rfl ?_
                  intro KK hKK
                  go_wp2_with fail
                  have HF := Lib.hid (HF.out.below (w' := z7.val.alloc (.cells (⟨e, ea, en, ep⟩ : Rec).cells.toArray 64)) ((Below.refl _ _).alloc (Nat.le_refl _) _))
                  refine hKK _ _ (.inr ⟨⟨_, HF.out.x.trans HX.out.symm⟩, rfl⟩) ?_
                  clear hKK KK
                  refine lin_free rfl ?_
                  intro KK hKK
                  go_wp2_with (at_builtin; refine wpList_append_own_at _ rfl _ _ 53 rfl WR.heap.size 64 i0 (.agg #[.int .i64 0, .int .i64 0, .int .i64 0, .string ⟨#[]⟩, .int .i64 0, .slice none 0 0]) 6 72 Tryz.underlying53 hi hz0 hz1 hz2 rfl (by decide) _ 0 [] rfl (World.ownsRow_nil _ _ _ 6) ⟨z7.val.heap.size, 0, none⟩ 1 1 (⟨e, ea, en, ep⟩ : Rec).cells rfl rfl (cells_new' _ _ _) (Rec.one _) (by unfold maxLen; omega) (by omega) (by simp; omega) ?_; intro v4 w4 hown4 hg4 _ hat4; have HF := Lib.hid (HF.out.grown hg4 (fun k hk => by cases hk)); have HR := Lib.hid (HR.out.pushK (r := (⟨e, ea, en, ep⟩ : Rec)) HFE.out HKE.out hown4 hg4 hat4); obtain ⟨g4, cp4, hv4⟩ := own_slice_z hown4; subst hv4; clear hown4 hg4 hat4)
                  refine hKK _ _ (.inr ⟨⟨_, HF.out.x.trans HX.out.symm⟩, rfl⟩) ?_
                  clear hKK KK
                  repeat (refine lin_calm rfl ?_; intro KK hKK; go_big_quiet_step (fail); refine wpQuiet_nil ?_; refine hKK _ ?_; clear hKK KK)
                  refine lin_free rfl ?_
                  intro KK hKK
                  obtain ⟨bx2, g0, g1, g2, g3', g4', g5', k0, k1, k2, k3, k4, k5⟩ := six_z HF.out.x
                  go_wp2_with fail
                  refine hKK _ _ (.inl trivial) ?_
                  clear hKK KK
                  refine lin_nil ?_
                  go_wp2_with fail
                  go_meet
                  case rel =>
                    exact ⟨_, _, _, _, ty, nl, fnl, tgt, bs, ul, [(⟨e, ea, en, ep⟩ : Rec)], HTY.out, HTG.out, hul, HUN.out, Nat.le_refl _, by intro r hr; simp at hr; subst hr; exact HME.out, (HF.out.set5 _).more (by have hbud : bud 3 = 82 := rfl; omega), HR.out.setx HF.out.x⟩
                · have d6 : ((r6 : Int) == 0) = false := by simp [h60]
                  go_wp2_with fail
                  go_meet
                  case rel => exact ⟨cs, us, fs, .slice none 0 0, ty, nl, fnl, tgt, bs, ul, [], HTY.out, HTG.out, hul, HUN.out, by simp, by simp, HF.out.more (by omega), HR.out⟩
              case rest =>
                clear HF HR HTY HTG HUN hul
                obtain ⟨cs, us, fs, ks, ty, nl, fnl, tgt, bs, ul, rs, hty, htg, hul, hun, hrl, hrm, hf, hr⟩ := hcut
                obtain ⟨⟨a1, n1, p1⟩, ⟨a2, n2, p2⟩, ⟨a3, n3, p3⟩, ⟨a4, n4, p4⟩, e1, e2, e3, e4, l1, l2, l3, l4, htb⟩ := tbO_of hr (nmB_size ⟨#[116]⟩ j (by decide)) hf.plo hf.pr (cols_ok hty) (fk_ok _ _ _ _)
                simp only [Sl.v] at e1 e2 e3 e4
                subst e1 e2 e3 e4
                have HM : Hid (MadeTb j (tbG (nmB ⟨#[116]⟩ j) ⟨a1, n1, p1⟩ (colL ty nl (r1 + 1) ++ fcL fnl q) pb ⟨a2, n2, p2⟩ ul ⟨a3, n3, p3⟩ (fkL (r1 + 1) tgt bs q) ⟨a4, n4, p4⟩ (rs.map Rec.e))) := Lib.hid ⟨r1 + 1, q, ty, nl, fnl, tgt, ul, fkL (r1 + 1) tgt bs q, rs.map Rec.e, _, _, _, _, pb, rfl, by rw [l1, List.length_append, colL_len, fcL_len], l2, by rw [l3, fkL_len], by rw [l4, List.length_map], by omega, by omega, hq1, hty, by simp [fkL], htg, hul, hun, by rw [List.length_map]; exact hrl, fun e he => by obtain ⟨r, h1, rfl⟩ := List.mem_map.1 he; exact hrm r h1⟩
                have HI := Lib.hid htb
                have HF := Lib.hid hf
                have HB3 := Lib.hid ((hf.tp.block _ hs (by omega)).trans HO.out.b3)
                obtain ⟨b3, g0, k0⟩ := one_z HB3.out
                obtain ⟨bx, f0, f1, f2, f3, f4, f5, c0, c1, c2, c3, c4, c5⟩ := six_z hf.x
                have HOW := Lib.hid (own_tp HO.out.own hf.tp (by omega))
                obtain ⟨i2, hi2, hy0, hy1, hy2⟩ := info_parts infoTb
                clear htb hf hr hty htg hun hrm l1 l2 l3 l4 hul hrl z6 z6s hr6
                go_wp2_with (at_builtin; refine wpList_append_own_at _ rfl _ _ 26 rfl (w.heap.size + 2) 55 i2 (.agg #[.string ⟨#[]⟩, .slice none 0 0, .slice none 0 0, .slice none 0 0, .slice none 0 0, .slice none 0 0]) 6 136 Tryz.underlying26 hi2 hy0 hy1 hy2 rfl (by decide) _ j ((List.range j).flatMap fun i => (tb i).cells) rfl (own_later HOW.out ((Below.refl _ _).alloc (Nat.le_refl _) _)) ⟨wc.heap.size, 0, none⟩ 1 1 [.string (nmB ⟨#[116]⟩ j), .slice a1 n1 p1, .slice (some ⟨pb, 0, none⟩) 1 1, .slice a2 n2 p2, .slice a3 n3 p3, .slice a4 n4 p4] rfl rfl (cells_new' _ _ _) (by intro u hu; simp at hu; rcases hu with rfl | rfl | rfl | rfl | rfl | rfl <;> rfl) (by unfold maxLen; omega) (by omega) (by simp; omega) ?_; intro v6 w6 hown6 hg6 _ hat6; have HS6 := Lib.hid (outG_step hT HO.out HF.out HM.out HI.out hg6 hown6 hat6); obtain ⟨g6, cp6, hv6⟩ := own_slice_z hown6; subst hv6; obtain ⟨b32, g02, k02⟩ := one_z ((hg6.block (w.heap.size + 1) (by simp; omega) (fun e => by have := (HOW.out.lt _ e.symm).1; omega)).trans ((Below.heap_alloc _ _ _ b3).trans HB3.out)); clear hown6 hg6 hat6)
                go_roundw
                case rel => exact ⟨j + 1, by go_num, by omega, _, _, _, _, HS6.out⟩
                case measure => simp [intOf]; omega
    · have d1 : decide ((j : Int) < 1 + (r0 : Int)) = false := by simp; omega
      obtain rfl : j = r0 + 1 := by omega
      obtain ⟨q2, p2, k2⟩ := one_z HO.out.b2
      obtain ⟨q3, p3, k3⟩ := one_z HO.out.b3
      obtain ⟨s, rfl, hsl, hat, hso⟩ := schO_of (W := WR.setCell ⟨w.heap.size, 0, none⟩ v) HO.out (fun b hb => Below.heap_setCell _ _ _ _ (by show b ≠ w.heap.size; omega)) (by simp [World.setCell])
      have HAT := Lib.hid hat
      have HSO := Lib.hid hso
      clear hat hso
      obtain ⟨sa, sn, sp⟩ := s
      simp only [Sl.v] at *
      have hsn : sn = r0 + 1 := hsl
      subst hsn
      go_wp2_with fail
      refine ret_ex rfl ?_
      simp [results, Tryz.results8, go_sem, k2]
      refine ⟨⟨sa, r0 + 1, sp⟩, ⟨rfl, rfl, rfl⟩, tb, ⟨by show 1 ≤ r0 + 1; omega, by show r0 + 1 ≤ 3; omega, fun i hi => (HO.out.tabs i hi).1⟩, HAT.out, HSO.out, Tq.of ?_ ?_⟩
      · exact Tp.setCell (p := ⟨w.heap.size, 0, none⟩) HO.out.tp (.inl (Nat.le_refl _)) _
      · exact (HO.out.tape.upto ((Below.refl _ _).setCell (by show T + 1 ≤ w.heap.size; omega) _)).mono (by omega)
theorem Schema_calls (T m : Nat) (w : World) (h : TapeAt T m w) (hm : m ≤ 2 ^ 50) :
    Calls Tryz.prog 8 #[.pointer (some ⟨T, 0, none⟩)] w fun r w' => ∃ (sl : Sl) (tb : Nat → Tb), r = .returned (.agg #[.slice sl.a sl.len sl.cap]) ∧ SchG sl tb ∧ TabsAt w' sl tb ∧ Tq T (m + 1000) w w' :=
  (Schema_own T m w h hm).mono fun _ _ ⟨sl, tb, h1, h2, h3, _, h5⟩ => ⟨sl, tb, h1, h2, h3, h5⟩
end Go.Proofs.YtdmhmlnfoocnjaaGreatDoor
