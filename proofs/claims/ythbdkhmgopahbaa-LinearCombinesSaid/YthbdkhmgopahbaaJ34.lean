/-
  The system that the tape makes.
-/
import Derived.Test.YthbdkhmgopahbaaJ33
set_option linter.unusedVariables false
namespace Go.Proofs.Ythbdkhmgopahbaa
open Go Go.RowKit Go.Deep
set_option maxHeartbeats 32000000 in
set_option maxRecDepth 20000 in
theorem System_calls (T m vars rows most : Nat) (w : World) (h : TapeAt T m w) (hv0 : 1 ≤ vars) (hv : vars ≤ 100) (hrw : rows ≤ 100) (hmo : most ≤ 1000000) (hm : m ≤ 2 ^ 60) :
    Calls Try.prog 7 #[.pointer (some ⟨T, 0, none⟩), .int .i64 vars, .int .i64 rows, .int .i64 most] w fun e w' => ∃ (y : Sy) (n k : Nat), e = .returned (.agg #[.slice y.U.a y.U.len y.U.cap, .slice y.R.a y.R.len y.R.cap, .slice y.B.a y.B.len y.B.cap]) ∧ 1 ≤ n ∧ n ≤ vars ∧ k ≤ rows ∧ SysT T n k most 1000000000 w' y ∧ Tq T (m + 30000) w w' := by
  have hT := h.lt
  have H := Lib.hid h
  clear h
  obtain ⟨i0, hi, hz0, hz1, hz2⟩ := info_parts infoI
  obtain ⟨i1, hj, hj0, hj1, hj2⟩ := info_parts infoRow
  go_enter Try.func7, Try.ntmps7
  go_wp2_with (go_at_call 8; ((with_reducible refine (Next_calls T m _ _ (H.out.later (by repeat first | with_reducible exact Below.refl _ _ | with_reducible refine Below.setCell ?_ (by first | omega | (simp; done) | (simp; omega)) _ | with_reducible refine Below.alloc ?_ (by first | omega | (simp; done) | (simp; omega)) _ | with_reducible refine Below.drew ?_ | with_reducible refine Ext.on _ ?_ (by first | omega | (simp; done) | (simp; omega)))) (by omega) (by omega) (by omega)).mono ?_); rintro e1 w1 hq; obtain ⟨r0, rfl, hr0, z, rfl⟩ := hq; have zs := z.size; simp at zs; have HU : Hid (UpS T (m + 1) (most : Int) 0 (.slice none 0 0) (fun _ => 0) w z.val) := Lib.hid ⟨z.on (by repeat first | with_reducible exact Tp.refl _ _ | with_reducible refine Tp.setCell ?_ (by first | (left; omega) | (left; simp; done) | (left; simp; omega)) _ | with_reducible refine Tp.alloc ?_ _ | with_reducible refine Tp.drew ?_ | with_reducible refine Lat.on _ ?_ | with_reducible refine Tp.ext ?_ _), z.at_, hT, ((z.tp.block _ (by simp) (by omega)).trans (heap_alloc_at _ _ (by simp))), ((z.tp.block _ (by simp; omega) (by omega)).trans ((Below.heap_alloc _ _ _ (by simp)).trans (heap_alloc_new _ _))), World.ownsRow_nil _ _ _ 1, fun i hi => absurd hi (Nat.not_lt_zero _)⟩))
  have hr1 : r0 + 1 ≤ vars := by omega
  clear hr0 zs
  generalize z.val = W1 at HU ⊢
  clear z
  obtain ⟨n, hn⟩ : ∃ n : Nat, n = r0 + 1 := ⟨_, rfl⟩
  rw [show (1 + (r0 : Int)) = ((n : Nat) : Int) by omega]
  have hn1 : 1 ≤ n := by omega
  have hn2 : n ≤ vars := by omega
  clear hn hr1
  go_loopw [11] (fun i wr => ∃ (j : Nat) (u : Value) (up : Nat → Int), i = .int .i64 j ∧ j ≤ n ∧ UpS T (m + 1 + j) (most : Int) j u up w wr) (fun i _ => n - (intOf i).toNat)
  case atStart => exact ⟨0, _, _, rfl, by omega, HU.out⟩
  case round =>
    clear HU
    obtain ⟨j, u, up, rfl, hj, hu⟩ := hrel
    have HU := Lib.hid hu
    have HX := Lib.hid hu.box
    clear hu
    by_cases hlt : j < n
    · have d1 : decide ((j : Int) < (n : Int)) = true := by simp; omega
      obtain ⟨bx, f0, f1, f2, c0, c1, c2⟩ := three_z HX.out
      go_wp2_with fail
      refine wp_region_lin_in (C := fun w' => ∃ y : Kept (w.heap.size + 1) wr, w' = y.val) (fun x => kept_start bx x) (by kernel_rfl) (by kernel_rfl) ?_
      intro x0
      have x0s := x0.size
      have HU := Lib.hid (HU.out.below x0.below)
      repeat (refine lin_calm rfl ?_; intro KK hKK; go_big_quiet_step (fail); refine wpQuiet_nil ?_; refine hKK _ ?_; clear hKK KK)
      refine lin_free rfl ?_
      intro KK hKK
      go_wp2_with (go_at_call 8; ((with_reducible refine (Next_calls T (m + 1 + j) _ _ HU.out.tape (by omega) (by omega) (by omega)).mono ?_); rintro e1 w1 hq; obtain ⟨r1, rfl, hr1, z, rfl⟩ := hq; have zs := z.size; have HU := Lib.hid (HU.out.next z)))
      refine hKK _ _ (.inr ⟨⟨_, HU.out.box.trans HX.out.symm⟩, rfl⟩) ?_
      clear hKK KK
      refine lin_free rfl ?_
      intro KK hKK
      go_wp2_with fail
      have HU := Lib.hid (HU.out.below (w' := z.val.alloc (.cells #[.int .i64 (r1 : Int)] 2)) ((Below.refl _ _).alloc (Nat.le_refl _) _))
      refine hKK _ _ (.inr ⟨⟨_, HU.out.box.trans HX.out.symm⟩, rfl⟩) ?_
      clear hKK KK
      refine lin_free rfl ?_
      intro KK hKK
      go_wp2_with (at_builtin; refine wpList_append_keep rfl _ _ 24 rfl (w.heap.size + 1 + 1) 2 i0 (.int .i64 0) 8 Try.underlying24 hi hz0 hz1 hz2 (by decide) rfl _ j (rowI up j) rfl HU.out.O ⟨z.val.heap.size, 0, none⟩ 1 (.int .i64 (r1 : Int)) rfl (cell_one_new _ _ _ 0 _ rfl) rfl (by omega) (by simp; omega) ?_; intro v3 w3 hown3 hg3 hat3 hk3; have hq3 := HU.out.push hown3 hg3 (by omega); have HX3 := Lib.hid hq3.1; have HU3 := Lib.hid hq3.2; obtain ⟨g3, cp3, hv3⟩ := own_slice_z hown3; subst hv3; clear hown3 hg3 hat3 hk3 hq3)
      refine hKK _ _ (.inr ⟨⟨_, HX3.out.trans HX.out.symm⟩, rfl⟩) ?_
      clear hKK KK
      repeat (refine lin_calm rfl ?_; intro KK hKK; go_big_quiet_step (fail); refine wpQuiet_nil ?_; refine hKK _ ?_; clear hKK KK)
      refine lin_free rfl ?_
      intro KK hKK
      obtain ⟨bx2, g0, g1, g2, k0, k1, k2⟩ := three_z HX3.out
      go_wp2_with fail
      refine hKK _ _ (.inl trivial) ?_
      clear hKK KK
      refine lin_nil ?_
      go_wp2_with fail
      go_roundw
      case rel => exact ⟨j + 1, _, _, by go_num, by omega, HU3.out.more (by omega)⟩
      case measure => simp [intOf]; omega
    · have d1 : decide ((j : Int) < (n : Int)) = false := by simp; omega
      obtain rfl : n = j := by omega
      clear hlt hj
      obtain ⟨U, rfl, hul, hU⟩ := IntsA.of_own HU.out.O
      have hP0 : ∀ (w' : World), w' = wr.alloc (.cells (madeCells #[.int .i64 0] n) 2) → PtS T (m + 1 + n) n (most : Int) U up wr.heap.size (fun _ => 0) w w' := by
        rintro w' rfl
        have hb : Below wr.heap.size wr (wr.alloc (.cells (madeCells #[.int .i64 0] n) 2)) := (Below.refl _ _).alloc (Nat.le_refl _) _
        have h2 := HU.out.below hb
        refine ⟨h2.tp, h2.tape, h2.tlt, h2.box, h2.res, hU.later hb, hul, h2.ub, fun c o hc => ?_, rowB_made _ _, ?_, fun i hi => ⟨by omega, by omega⟩⟩
        · have h3 := HU.out.O.lt c (by show Value.ownBlock _ = _; simp [Value.ownBlock, hc])
          exact ⟨by omega, by omega, by omega⟩
        · have h3 := (Array.getElem?_eq_some_iff.1 HU.out.box).1
          omega
      have hmk := make_nums n (by omega)
      have d1 : decide ((n : Int) < (n : Int)) = false := by simp
      have HP0 := Lib.hid hP0
      clear hP0 hU hul
      go_wp2_with fail
      have HP := Lib.hid (HP0.out _ rfl)
      clear HP0 hmk d1
      generalize wr.heap.size = bx at HP ⊢
      generalize wr.alloc _ = W2 at HP ⊢
      clear HU HX
      go_loopw [13] (fun i wr => ∃ (j : Nat) (x : Nat → Int), i = .int .i64 j ∧ j ≤ n ∧ PtS T (m + 1 + n + j) n (most : Int) U up bx x w wr) (fun i _ => n - (intOf i).toNat)
      case atStart => exact ⟨0, _, rfl, by omega, HP.out⟩
      case round =>
        clear HP
        obtain ⟨j, x, rfl, hj, hp⟩ := hrel
        have HP := Lib.hid hp
        clear hp
        by_cases hlt : j < n
        · have d1 : decide ((j : Int) < (n : Int)) = true := by simp; omega
          have hbx := HP.out.box
          obtain ⟨bx1, f0, f1, f2, c0, c1, c2⟩ := three_z hbx
          obtain ⟨bu, ou, hua, hub, huc⟩ := HP.out.ui.2.2.resolve_left (by rw [HP.out.un]; omega)
          have hun := HP.out.un
          have hul := HP.out.ui.1
          have huM := HP.out.ui.2.1
          unfold maxLen at huM
          have hq := huc j (by omega)
          have hb := HP.out.ub j hlt
          obtain ⟨ua, un, uc⟩ := U
          simp only at hun hul huM hua hq c0
          subst hun
          subst hua
          clear huc hbx
          generalize up j = uj at hq hb
          go_wp2_with (go_at_call 8; ((with_reducible refine (Next_calls T (m + 1 + un + j) _ _ HP.out.tape (by omega) (by omega) (by omega)).mono ?_); rintro e1 w1 hq; obtain ⟨r1, rfl, hr1, z, rfl⟩ := hq; have zs := z.size; have HP := Lib.hid (HP.out.next z); obtain ⟨bx3, g0, k0⟩ := HP.out.xr.cell hlt))
          go_roundw
          case rel => exact ⟨j + 1, _, by go_num, by omega, (HP.out.set (j := j) (r := (r1 : Int)) (by omega)).more (by omega)⟩
          case measure => simp [intOf]; omega
        · obtain rfl : n = j := by omega
          have HB := Lib.hid (HP.out.start (by omega) (by omega) 1000000000)
          have d1 : decide ((n : Int) < (n : Int)) = false := by simp
          have hxlo := HP.out.xlo
          clear HP hlt hj
          go_wp2_with (first | (go_at_call 8; ((with_reducible refine (Next_calls T (m + 1 + n + n) _ _ HB.out.tape (by omega) (by omega) (by omega)).mono ?_); rintro e1 w1 hq; obtain ⟨r2, rfl, hr2, z2, rfl⟩ := hq; have z2s := z2.size; have HB := Lib.hid (HB.out.next z2))) | (go_at_call 8; ((with_reducible refine (Next_calls T (m + 1 + n + n + 1) _ _ HB.out.tape (by omega) (by omega) (by omega)).mono ?_); rintro e1 w1 hq; obtain ⟨r3, rfl, hr3, z3, rfl⟩ := hq; have z3s := z3.size; have HB := Lib.hid (HB.out.next z3))))
          have hr4 : r3 ≤ rows := by omega
          clear hr2 hr3 z2s z3s
          generalize z3.val = W3 at HB ⊢
          clear z3
          generalize ((r2 : Int) == 0) = meet
          go_loopw [15] (fun i wr => ∃ (kr j : Nat) (vr vb : Value) (row : Nat → Sl) (co : Nat → Nat → Int) (rt : Nat → Int), i = .int .i64 (kr : Int) ∧ kr + j = r3 ∧ BoxS T (m + 1000 + 200 * j) (w.heap.size + 1) n j (most : Int) 1000000000 vr vb U ⟨some ⟨bx, 0, none⟩, n, n⟩ up x row co rt w wr) (fun i _ => (intOf i).toNat)
          case atStart => exact ⟨r3, 0, _, _, _, _, _, rfl, rfl, HB.out.more (by omega)⟩
          case round =>
            clear HB
            rename World => WR
            obtain ⟨kr, j, vr, vb, row, co, rt, rfl, hkr, hb⟩ := hrel
            have HB := Lib.hid hb
            clear hb
            by_cases hlt : 0 < kr
            · have d1 : decide ((0 : Int) < (kr : Int)) = true := decide_eq_true (by omega)
              have hs3 := (Array.getElem?_eq_some_iff.1 HB.out.box).1
              go_wp2_with fail
              go_loopw [16, 17, 18] (fun v sl i wr4 => ∃ (q : Nat) (c : Nat → Int) (sm : Int), i = .int .i64 q ∧ sl = .int .i64 sm ∧ q ≤ n ∧ LineS T (m + 1000 + 200 * j + q) q v c WR wr4 ∧ -(5000000 * (q : Int)) ≤ sm ∧ sm ≤ 5000000 * (q : Int)) (fun _ _ i _ => n - (intOf i).toNat)
              case atStart => exact ⟨0, fun _ => 0, 0, rfl, rfl, by omega, ⟨Tp.refl _ _, HB.out.tape, by omega, World.ownsRow_nil _ _ _ 1, fun i hi => absurd hi (Nat.not_lt_zero _)⟩, by omega, by omega⟩
              case round =>
                obtain ⟨q, c, sm, rfl, rfl, hq, hl, hm1, hm2⟩ := hrel
                have HL := Lib.hid hl
                clear hl
                by_cases hlt4 : q < n
                · have d2 : decide ((q : Int) < (n : Int)) = true := by simp; omega
                  have hx := HB.out.xb q hlt4
                  have HXC := Lib.hid (fun (W : World) (h : BoxS T (m + 1000 + 200 * j + q + 1) (w.heap.size + 1) n j (most : Int) 1000000000 vr vb U ⟨some ⟨bx, 0, none⟩, n, n⟩ up x row co rt w W) => h.xcell hlt4)
                  generalize x q = xq at HXC hx
                  go_wp2_with (first | (go_at_call 8; ((with_reducible refine (Next_calls T (m + 1000 + 200 * j + q) _ _ HL.out.tape (by omega) (by omega) (by omega)).mono ?_); rintro e1 w1 hq; obtain ⟨r4, rfl, hr4, z4, rfl⟩ := hq; have z4s := z4.size; have HL := Lib.hid (HL.out.next z4); have hr5 : r4 ≤ 10 := (by omega); have pb := mul_bd ((r4 : Int) - 5) xq (by omega) (by omega) (by omega) (by omega))) | (at_builtin; refine wpList_append_keep rfl _ _ 24 rfl WR.heap.size 2 i0 (.int .i64 0) 8 Try.underlying24 hi hz0 hz1 hz2 (by decide) rfl _ q (rowI c q) rfl (HL.out.below ((Below.refl _ _).alloc (Nat.le_refl _) _)).O ⟨z4.val.heap.size, 0, none⟩ 1 (.int .i64 ((r4 : Int) - 5)) rfl (cell_one_new _ _ _ 0 _ rfl) rfl (by omega) (by have := HL.out.tp.size; simp; omega) ?_; intro v3 w3 hown3 hg3 hat3 hk3; have HL3 := Lib.hid ((HL.out.below ((Below.refl _ _).alloc (Nat.le_refl _) _)).push hown3 hg3 (by omega)); have k5 := HXC.out _ (HB.out.step HL3.out.tp HL3.out.tape); obtain ⟨g3, cp3, hv3⟩ := own_slice_z hown3; subst hv3; clear hown3 hg3 hat3 hk3))
                  go_roundw
                  case rel => exact ⟨q + 1, _, _, by go_num, by go_num, by omega, HL3.out.more (by omega), by omega, by omega⟩
                  case measure => simp [intOf]; omega
                · obtain rfl : n = q := by omega
                  have d2 : decide ((n : Int) < (n : Int)) = false := by simp
                  clear hlt4 hq
                  cases meet
                  · go_wp2_with (go_at_call 8; ((with_reducible refine (Next_calls T (m + 1000 + 200 * j + n) _ _ HL.out.tape (by omega) (by omega) (by omega)).mono ?_); rintro e1 w1 hq; obtain ⟨r6, rfl, hr6, z6, rfl⟩ := hq; have z6s := z6.size; have HL := Lib.hid (HL.out.next z6); have hr7 : r6 ≤ 6 := (by omega)))
                    obtain ⟨s, rfl, hsl, hsi, hsa⟩ := HL.out.done HB.out
                    have HB4 := Lib.hid (HB.out.step HL.out.tp HL.out.tape)
                    have HSI := Lib.hid hsi
                    have HSA := Lib.hid hsa
                    have HCB := Lib.hid HL.out.cb
                    have HSL := Lib.hid hsl
                    clear HL HB hsi hsa hsl
                    obtain ⟨sg, hse⟩ : ∃ sg : Int, sg = sm + ((r6 : Int) - 3) := ⟨_, rfl⟩
                    rw [← hse]
                    have hsg : -1000000000 ≤ sg ∧ sg ≤ 1000000000 := by omega
                    clear hse
                    generalize z6.val = W4 at HB4 HSI ⊢
                    have hR4 : ∀ k, vr.ownBlock = some k → k < W4.heap.size := fun k hk => (HB4.out.R.lt k hk).2
                    have hB4 : ∀ k, vb.ownBlock = some k → k < W4.heap.size := fun k hk => (HB4.out.B.lt k hk).2
                    have hs4 := (Array.getElem?_eq_some_iff.1 HB4.out.box).1
                    refine wp_region_invH (fun W => AddC (w.heap.size + 1) j vr vb row rt W4 W) (AddR vr vb) [11, 12, 13] [_, _, _] ⟨AddT (w.heap.size + 1) j vr vb row rt s sg W4, fun _ _ _ => True, fun _ _ _ _ => True⟩ 107 (by kernel_rfl) rfl (by kernel_rfl) rfl ⟨rfl, rfl, rfl, Nat.le_refl _, fun _ _ _ _ => rfl, HB4.out.R, HB4.out.B⟩ (fun i k u w1 w2 hC hr hk h => AddC.mono hR4 hB4 i k u w1 w2 hC hr hk h) (fun _ _ _ _ _ _ _ => ⟨trivial, trivial⟩) (by decide) ?_
                    clear hR4 hB4
                    refine invH_step (by kernel_rfl) (fun W hW hd K hK => ?_) (fun v0 aq hq => ?_)
                    · have HK := Lib.hid hK
                      clear hK hd
                      go_wp2_with fail
                      exact HK.out _ _ rfl ⟨hW, AddC.refl _ _⟩ rfl trivial
                    simp only [Act.put, List.setIfInBounds_toArray, List.set_cons_zero, List.set_cons_succ] at hq
                    subst hq
                    refine invH_step (by kernel_rfl) (fun W hW hd K hK => ?_) (fun v1 aq hq => ?_)
                    · have HK := Lib.hid hK
                      obtain rfl : v0 = .pointer (some ⟨w.heap.size + 1, 1, none⟩) := hd 0 (by kernel_rfl)
                      clear hK hd
                      have hbx := hW.box HB4.out.box
                      obtain ⟨hb0, f0, f1, f2, c0, c1, c2⟩ := three_z hbx
                      clear hbx
                      go_wp2_with fail
                      exact HK.out _ _ rfl ⟨hW, AddC.refl _ _⟩ rfl trivial
                    simp only [Act.put, List.setIfInBounds_toArray, List.set_cons_zero, List.set_cons_succ] at hq
                    subst hq
                    refine invH_step (by kernel_rfl) (fun W hW hd K hK => ?_) (fun v2 aq hq => ?_)
                    · have HK := Lib.hid hK
                      clear hK hd
                      go_wp2_with fail
                      exact HK.out _ _ rfl ⟨hW, AddC.refl _ _⟩ rfl trivial
                    simp only [Act.put, List.setIfInBounds_toArray, List.set_cons_zero, List.set_cons_succ] at hq
                    subst hq
                    refine invH_step (by kernel_rfl) (fun W hW hd K hK => ?_) (fun v3 aq hq => ?_)
                    · have HK := Lib.hid hK
                      obtain rfl : v2 = .slice s.a s.len s.cap := hd 2 (by kernel_rfl)
                      clear hK hd
                      go_wp2_with fail
                      exact HK.out _ _ rfl ⟨hW.alloc _, AddC.allocR _ _ _⟩ ⟨W.heap.size, rfl, hW.size, heap_alloc_new _ _⟩ trivial
                    simp only [Act.put, List.setIfInBounds_toArray, List.set_cons_zero, List.set_cons_succ] at hq
                    subst hq
                    refine invH_step (by kernel_rfl) (fun W hW hd K hK => ?_) (fun v4 aq hq => ?_)
                    · have HK := Lib.hid hK
                      obtain rfl : v1 = vr := hd 1 (by kernel_rfl)
                      obtain ⟨q, rfl, hq1, hq2⟩ : ∃ q, v3 = .slice (some ⟨q, 0, none⟩) 1 1 ∧ W4.heap.size ≤ q ∧ W.heap[q]? = some (.cells #[.slice s.a s.len s.cap] 24) := hd 3 (by kernel_rfl)
                      clear hK hd
                      have hqc : W.cell? ⟨q, 0, none⟩ = some (.slice s.a s.len s.cap) := by rw [cell_of_row _ _ _ _ _ (0, 0) hq2]; rfl
                      have HW := Lib.hid hW
                      clear hW
                      go_wp2_with (at_builtin; refine wpList_append_keep rfl _ _ 28 rfl (w.heap.size + 1 + 1) 24 i1 (.slice none 0 0) 24 Try.underlying28 hj hj0 hj1 hj2 (by decide) rfl _ j (rowV row j) rfl HW.out.R ⟨q, 0, none⟩ 1 (.slice s.a s.len s.cap) rfl hqc rfl (by omega) (by have := HW.out.size; omega) ?_; intro v3 w3 hown3 hg3 hat3 hk3)
                      exact HK.out _ _ rfl ⟨HW.out.addR hg3 hk3, AddC.relR hg3⟩ ⟨hown3, hat3.imp id fun e => ⟨_, e, HW.out.size⟩⟩ trivial
                    simp only [Act.put, List.setIfInBounds_toArray, List.set_cons_zero, List.set_cons_succ] at hq
                    subst hq
                    refine invH_step (by kernel_rfl) (fun W hW hd K hK => ?_) (fun v5 aq hq => ?_)
                    · have HK := Lib.hid hK
                      clear hK hd
                      go_wp2_with fail
                      exact HK.out _ _ rfl ⟨hW, AddC.refl _ _⟩ rfl trivial
                    simp only [Act.put, List.setIfInBounds_toArray, List.set_cons_zero, List.set_cons_succ] at hq
                    subst hq
                    refine invH_step (by kernel_rfl) (fun W hW hd K hK => ?_) (fun v6 aq hq => ?_)
                    · have HK := Lib.hid hK
                      obtain rfl : v5 = .pointer (some ⟨w.heap.size + 1, 2, none⟩) := hd 5 (by kernel_rfl)
                      clear hK hd
                      have hbx := hW.box HB4.out.box
                      obtain ⟨hb0, f0, f1, f2, c0, c1, c2⟩ := three_z hbx
                      clear hbx
                      go_wp2_with fail
                      exact HK.out _ _ rfl ⟨hW, AddC.refl _ _⟩ rfl trivial
                    simp only [Act.put, List.setIfInBounds_toArray, List.set_cons_zero, List.set_cons_succ] at hq
                    subst hq
                    refine invH_step (by kernel_rfl) (fun W hW hd K hK => ?_) (fun v7 aq hq => ?_)
                    · have HK := Lib.hid hK
                      clear hK hd
                      go_wp2_with fail
                      exact HK.out _ _ rfl ⟨hW, AddC.refl _ _⟩ rfl trivial
                    simp only [Act.put, List.setIfInBounds_toArray, List.set_cons_zero, List.set_cons_succ] at hq
                    subst hq
                    refine invH_step (by kernel_rfl) (fun W hW hd K hK => ?_) (fun v8 aq hq => ?_)
                    · have HK := Lib.hid hK
                      obtain rfl : v7 = .int .i64 sg := hd 7 (by kernel_rfl)
                      clear hK hd
                      go_wp2_with fail
                      exact HK.out _ _ rfl ⟨hW.alloc _, AddC.allocR _ _ _⟩ ⟨W.heap.size, rfl, hW.size, heap_alloc_new _ _⟩ trivial
                    simp only [Act.put, List.setIfInBounds_toArray, List.set_cons_zero, List.set_cons_succ] at hq
                    subst hq
                    refine invH_step (by kernel_rfl) (fun W hW hd K hK => ?_) (fun v9 aq hq => ?_)
                    · have HK := Lib.hid hK
                      obtain rfl : v6 = vb := hd 6 (by kernel_rfl)
                      obtain ⟨q, rfl, hq1, hq2⟩ : ∃ q, v8 = .slice (some ⟨q, 0, none⟩) 1 1 ∧ W4.heap.size ≤ q ∧ W.heap[q]? = some (.cells #[.int .i64 sg] 2) := hd 8 (by kernel_rfl)
                      clear hK hd
                      have hqc : W.cell? ⟨q, 0, none⟩ = some (.int .i64 sg) := by rw [cell_of_row _ _ _ _ _ (0, 0) hq2]; rfl
                      have HW := Lib.hid hW
                      clear hW
                      go_wp2_with (at_builtin; refine wpList_append_keep rfl _ _ 24 rfl (w.heap.size + 1 + 1) 2 i0 (.int .i64 0) 8 Try.underlying24 hi hz0 hz1 hz2 (by decide) rfl _ j (rowI rt j) rfl HW.out.B ⟨q, 0, none⟩ 1 (.int .i64 sg) rfl hqc rfl (by omega) (by have := HW.out.size; omega) ?_; intro v3 w3 hown3 hg3 hat3 hk3)
                      exact HK.out _ _ rfl ⟨HW.out.addB hg3 hk3, AddC.relB hg3⟩ ⟨hown3, hat3.imp id fun e => ⟨_, e, HW.out.size⟩⟩ trivial
                    simp only [Act.put, List.setIfInBounds_toArray, List.set_cons_zero, List.set_cons_succ] at hq
                    subst hq
                    refine invH_step (by kernel_rfl) (fun W hW hd K hK => ?_) (fun v10 aq hq => ?_)
                    · have HK := Lib.hid hK
                      clear hK hd
                      go_wp2_with fail
                      exact HK.out _ _ rfl ⟨hW, AddC.refl _ _⟩ rfl trivial
                    simp only [Act.put, List.setIfInBounds_toArray, List.set_cons_zero, List.set_cons_succ] at hq
                    subst hq
                    refine invH_skip (by kernel_rfl) ?_
                    refine invH_skip (by kernel_rfl) ?_
                    refine invH_skip (by kernel_rfl) ?_
                    refine invH_nil fun W hW hT hR => ?_
                    obtain rfl : v10 = .pointer (some ⟨w.heap.size + 1, 1, none⟩) := hT 10 (by decide) (by decide)
                    have h4 : AddT (w.heap.size + 1) j vr vb row rt s sg W4 4 v4 W := hT 4 (by decide) (by decide)
                    have h9 : AddT (w.heap.size + 1) j vr vb row rt s sg W4 9 v9 W := hT 9 (by decide) (by decide)
                    clear hT hR
                    have HF := Lib.hid (hW.fin HB4.out h4 h9 HSI.out HSL.out HSA.out HCB.out hsg)
                    have hbx := hW.box HB4.out.box
                    obtain ⟨hb0, f0, f1, f2, c0, c1, c2⟩ := three_z hbx
                    obtain ⟨g4, p4, rfl⟩ := own_slice_z h4.1
                    obtain ⟨g9, p9, rfl⟩ := own_slice_z h9.1
                    clear hbx h4 h9 hW HB4 HSI HSA HCB
                    go_wp2_with fail
                    go_roundw
                    case rel => exact ⟨kr - 1, j + 1, _, _, _, _, _, congrArg (Value.int .i64) (by omega), by omega, HF.out.more (by omega)⟩
                    case measure => simp only [intOf]; omega

                  · go_wp2_with fail
                    obtain ⟨s, rfl, hsl, hsi, hsa⟩ := HL.out.done HB.out
                    have HB4 := Lib.hid (HB.out.step HL.out.tp HL.out.tape)
                    have HSI := Lib.hid hsi
                    have HSA := Lib.hid hsa
                    have HCB := Lib.hid HL.out.cb
                    have HSL := Lib.hid hsl
                    clear HL HB hsi hsa hsl
                    obtain ⟨sg, hse⟩ : ∃ sg : Int, sg = sm := ⟨_, rfl⟩
                    rw [← hse]
                    have hsg : -1000000000 ≤ sg ∧ sg ≤ 1000000000 := by omega
                    clear hse
                    generalize wr = W4 at HB4 HSI ⊢
                    have hR4 : ∀ k, vr.ownBlock = some k → k < W4.heap.size := fun k hk => (HB4.out.R.lt k hk).2
                    have hB4 : ∀ k, vb.ownBlock = some k → k < W4.heap.size := fun k hk => (HB4.out.B.lt k hk).2
                    have hs4 := (Array.getElem?_eq_some_iff.1 HB4.out.box).1
                    refine wp_region_invH (fun W => AddC (w.heap.size + 1) j vr vb row rt W4 W) (AddR vr vb) [11, 12, 13] [_, _, _] ⟨AddT (w.heap.size + 1) j vr vb row rt s sg W4, fun _ _ _ => True, fun _ _ _ _ => True⟩ 107 (by kernel_rfl) rfl (by kernel_rfl) rfl ⟨rfl, rfl, rfl, Nat.le_refl _, fun _ _ _ _ => rfl, HB4.out.R, HB4.out.B⟩ (fun i k u w1 w2 hC hr hk h => AddC.mono hR4 hB4 i k u w1 w2 hC hr hk h) (fun _ _ _ _ _ _ _ => ⟨trivial, trivial⟩) (by decide) ?_
                    clear hR4 hB4
                    refine invH_step (by kernel_rfl) (fun W hW hd K hK => ?_) (fun v0 aq hq => ?_)
                    · have HK := Lib.hid hK
                      clear hK hd
                      go_wp2_with fail
                      exact HK.out _ _ rfl ⟨hW, AddC.refl _ _⟩ rfl trivial
                    simp only [Act.put, List.setIfInBounds_toArray, List.set_cons_zero, List.set_cons_succ] at hq
                    subst hq
                    refine invH_step (by kernel_rfl) (fun W hW hd K hK => ?_) (fun v1 aq hq => ?_)
                    · have HK := Lib.hid hK
                      obtain rfl : v0 = .pointer (some ⟨w.heap.size + 1, 1, none⟩) := hd 0 (by kernel_rfl)
                      clear hK hd
                      have hbx := hW.box HB4.out.box
                      obtain ⟨hb0, f0, f1, f2, c0, c1, c2⟩ := three_z hbx
                      clear hbx
                      go_wp2_with fail
                      exact HK.out _ _ rfl ⟨hW, AddC.refl _ _⟩ rfl trivial
                    simp only [Act.put, List.setIfInBounds_toArray, List.set_cons_zero, List.set_cons_succ] at hq
                    subst hq
                    refine invH_step (by kernel_rfl) (fun W hW hd K hK => ?_) (fun v2 aq hq => ?_)
                    · have HK := Lib.hid hK
                      clear hK hd
                      go_wp2_with fail
                      exact HK.out _ _ rfl ⟨hW, AddC.refl _ _⟩ rfl trivial
                    simp only [Act.put, List.setIfInBounds_toArray, List.set_cons_zero, List.set_cons_succ] at hq
                    subst hq
                    refine invH_step (by kernel_rfl) (fun W hW hd K hK => ?_) (fun v3 aq hq => ?_)
                    · have HK := Lib.hid hK
                      obtain rfl : v2 = .slice s.a s.len s.cap := hd 2 (by kernel_rfl)
                      clear hK hd
                      go_wp2_with fail
                      exact HK.out _ _ rfl ⟨hW.alloc _, AddC.allocR _ _ _⟩ ⟨W.heap.size, rfl, hW.size, heap_alloc_new _ _⟩ trivial
                    simp only [Act.put, List.setIfInBounds_toArray, List.set_cons_zero, List.set_cons_succ] at hq
                    subst hq
                    refine invH_step (by kernel_rfl) (fun W hW hd K hK => ?_) (fun v4 aq hq => ?_)
                    · have HK := Lib.hid hK
                      obtain rfl : v1 = vr := hd 1 (by kernel_rfl)
                      obtain ⟨q, rfl, hq1, hq2⟩ : ∃ q, v3 = .slice (some ⟨q, 0, none⟩) 1 1 ∧ W4.heap.size ≤ q ∧ W.heap[q]? = some (.cells #[.slice s.a s.len s.cap] 24) := hd 3 (by kernel_rfl)
                      clear hK hd
                      have hqc : W.cell? ⟨q, 0, none⟩ = some (.slice s.a s.len s.cap) := by rw [cell_of_row _ _ _ _ _ (0, 0) hq2]; rfl
                      have HW := Lib.hid hW
                      clear hW
                      go_wp2_with (at_builtin; refine wpList_append_keep rfl _ _ 28 rfl (w.heap.size + 1 + 1) 24 i1 (.slice none 0 0) 24 Try.underlying28 hj hj0 hj1 hj2 (by decide) rfl _ j (rowV row j) rfl HW.out.R ⟨q, 0, none⟩ 1 (.slice s.a s.len s.cap) rfl hqc rfl (by omega) (by have := HW.out.size; omega) ?_; intro v3 w3 hown3 hg3 hat3 hk3)
                      exact HK.out _ _ rfl ⟨HW.out.addR hg3 hk3, AddC.relR hg3⟩ ⟨hown3, hat3.imp id fun e => ⟨_, e, HW.out.size⟩⟩ trivial
                    simp only [Act.put, List.setIfInBounds_toArray, List.set_cons_zero, List.set_cons_succ] at hq
                    subst hq
                    refine invH_step (by kernel_rfl) (fun W hW hd K hK => ?_) (fun v5 aq hq => ?_)
                    · have HK := Lib.hid hK
                      clear hK hd
                      go_wp2_with fail
                      exact HK.out _ _ rfl ⟨hW, AddC.refl _ _⟩ rfl trivial
                    simp only [Act.put, List.setIfInBounds_toArray, List.set_cons_zero, List.set_cons_succ] at hq
                    subst hq
                    refine invH_step (by kernel_rfl) (fun W hW hd K hK => ?_) (fun v6 aq hq => ?_)
                    · have HK := Lib.hid hK
                      obtain rfl : v5 = .pointer (some ⟨w.heap.size + 1, 2, none⟩) := hd 5 (by kernel_rfl)
                      clear hK hd
                      have hbx := hW.box HB4.out.box
                      obtain ⟨hb0, f0, f1, f2, c0, c1, c2⟩ := three_z hbx
                      clear hbx
                      go_wp2_with fail
                      exact HK.out _ _ rfl ⟨hW, AddC.refl _ _⟩ rfl trivial
                    simp only [Act.put, List.setIfInBounds_toArray, List.set_cons_zero, List.set_cons_succ] at hq
                    subst hq
                    refine invH_step (by kernel_rfl) (fun W hW hd K hK => ?_) (fun v7 aq hq => ?_)
                    · have HK := Lib.hid hK
                      clear hK hd
                      go_wp2_with fail
                      exact HK.out _ _ rfl ⟨hW, AddC.refl _ _⟩ rfl trivial
                    simp only [Act.put, List.setIfInBounds_toArray, List.set_cons_zero, List.set_cons_succ] at hq
                    subst hq
                    refine invH_step (by kernel_rfl) (fun W hW hd K hK => ?_) (fun v8 aq hq => ?_)
                    · have HK := Lib.hid hK
                      obtain rfl : v7 = .int .i64 sg := hd 7 (by kernel_rfl)
                      clear hK hd
                      go_wp2_with fail
                      exact HK.out _ _ rfl ⟨hW.alloc _, AddC.allocR _ _ _⟩ ⟨W.heap.size, rfl, hW.size, heap_alloc_new _ _⟩ trivial
                    simp only [Act.put, List.setIfInBounds_toArray, List.set_cons_zero, List.set_cons_succ] at hq
                    subst hq
                    refine invH_step (by kernel_rfl) (fun W hW hd K hK => ?_) (fun v9 aq hq => ?_)
                    · have HK := Lib.hid hK
                      obtain rfl : v6 = vb := hd 6 (by kernel_rfl)
                      obtain ⟨q, rfl, hq1, hq2⟩ : ∃ q, v8 = .slice (some ⟨q, 0, none⟩) 1 1 ∧ W4.heap.size ≤ q ∧ W.heap[q]? = some (.cells #[.int .i64 sg] 2) := hd 8 (by kernel_rfl)
                      clear hK hd
                      have hqc : W.cell? ⟨q, 0, none⟩ = some (.int .i64 sg) := by rw [cell_of_row _ _ _ _ _ (0, 0) hq2]; rfl
                      have HW := Lib.hid hW
                      clear hW
                      go_wp2_with (at_builtin; refine wpList_append_keep rfl _ _ 24 rfl (w.heap.size + 1 + 1) 2 i0 (.int .i64 0) 8 Try.underlying24 hi hz0 hz1 hz2 (by decide) rfl _ j (rowI rt j) rfl HW.out.B ⟨q, 0, none⟩ 1 (.int .i64 sg) rfl hqc rfl (by omega) (by have := HW.out.size; omega) ?_; intro v3 w3 hown3 hg3 hat3 hk3)
                      exact HK.out _ _ rfl ⟨HW.out.addB hg3 hk3, AddC.relB hg3⟩ ⟨hown3, hat3.imp id fun e => ⟨_, e, HW.out.size⟩⟩ trivial
                    simp only [Act.put, List.setIfInBounds_toArray, List.set_cons_zero, List.set_cons_succ] at hq
                    subst hq
                    refine invH_step (by kernel_rfl) (fun W hW hd K hK => ?_) (fun v10 aq hq => ?_)
                    · have HK := Lib.hid hK
                      clear hK hd
                      go_wp2_with fail
                      exact HK.out _ _ rfl ⟨hW, AddC.refl _ _⟩ rfl trivial
                    simp only [Act.put, List.setIfInBounds_toArray, List.set_cons_zero, List.set_cons_succ] at hq
                    subst hq
                    refine invH_skip (by kernel_rfl) ?_
                    refine invH_skip (by kernel_rfl) ?_
                    refine invH_skip (by kernel_rfl) ?_
                    refine invH_nil fun W hW hT hR => ?_
                    obtain rfl : v10 = .pointer (some ⟨w.heap.size + 1, 1, none⟩) := hT 10 (by decide) (by decide)
                    have h4 : AddT (w.heap.size + 1) j vr vb row rt s sg W4 4 v4 W := hT 4 (by decide) (by decide)
                    have h9 : AddT (w.heap.size + 1) j vr vb row rt s sg W4 9 v9 W := hT 9 (by decide) (by decide)
                    clear hT hR
                    have HF := Lib.hid (hW.fin HB4.out h4 h9 HSI.out HSL.out HSA.out HCB.out hsg)
                    have hbx := hW.box HB4.out.box
                    obtain ⟨hb0, f0, f1, f2, c0, c1, c2⟩ := three_z hbx
                    obtain ⟨g4, p4, rfl⟩ := own_slice_z h4.1
                    obtain ⟨g9, p9, rfl⟩ := own_slice_z h9.1
                    clear hbx h4 h9 hW HB4 HSI HSA HCB
                    go_wp2_with fail
                    go_roundw
                    case rel => exact ⟨kr - 1, j + 1, _, _, _, _, _, congrArg (Value.int .i64) (by omega), by omega, HF.out.more (by omega)⟩
                    case measure => simp only [intOf]; omega

            · obtain rfl : kr = 0 := by omega
              have d1 : decide ((0 : Int) < ((0 : Nat) : Int)) = false := rfl
              obtain ⟨R, B, rfl, rfl, hfin⟩ := HB.out.fin
              have HFIN := Lib.hid hfin
              have hbox := HB.out.box
              have hres := HB.out.res
              obtain ⟨hb0, f0, f1, f2, c0, c1, c2⟩ := three_z hbox
              obtain ⟨hr0, g0, g1, g2, _, _, _⟩ := three_z hres
              have hjr : j ≤ rows := by omega
              clear HB hbox hfin hkr
              go_wp2_with fail
              have hk : ∀ (W' : World), W' = ((WR.setCell ⟨w.heap.size, 0, none⟩ (.slice U.a U.len U.cap)).setCell ⟨w.heap.size, 1, none⟩ (.slice R.a R.len R.cap)).setCell ⟨w.heap.size, 2, none⟩ (.slice B.a B.len B.cap) → SysT T n j (most : Int) 1000000000 W' ⟨U, R, B, up, row, co, rt⟩ ∧ Tq T (m + 1000 + 200 * j) w W' := by
                rintro W' rfl
                exact HFIN.out _ rfl rfl rfl (by simp [World.setCell]) fun k hk hne => (Below.heap_setCell _ _ _ _ hne).trans ((Below.heap_setCell _ _ _ _ hne).trans (Below.heap_setCell _ _ _ _ hne))
              have hb8 : ∀ (W' : World), W' = ((WR.setCell ⟨w.heap.size, 0, none⟩ (.slice U.a U.len U.cap)).setCell ⟨w.heap.size, 1, none⟩ (.slice R.a R.len R.cap)).setCell ⟨w.heap.size, 2, none⟩ (.slice B.a B.len B.cap) → W'.heap[w.heap.size]? = some (.cells #[.slice U.a U.len U.cap, .slice R.a R.len R.cap, .slice B.a B.len B.cap] 30) := by
                rintro W' rfl
                have e1 := heap_setCell_same WR w.heap.size 0 _ _ (.slice U.a U.len U.cap) hres
                have e2 := heap_setCell_same _ w.heap.size 1 _ _ (.slice R.a R.len R.cap) e1
                have e3 := heap_setCell_same _ w.heap.size 2 _ _ (.slice B.a B.len B.cap) e2
                rw [e3]
                rfl
              generalize ((WR.setCell ⟨w.heap.size, 0, none⟩ (.slice U.a U.len U.cap)).setCell ⟨w.heap.size, 1, none⟩ (.slice R.a R.len R.cap)).setCell ⟨w.heap.size, 2, none⟩ (.slice B.a B.len B.cap) = W9 at hk hb8 ⊢
              obtain ⟨h1, h2⟩ := hk _ rfl
              obtain ⟨hr1, _, _, _, k0, k1, k2⟩ := three_z (hb8 _ rfl)
              clear hk HFIN hb8 g0 g1 g2
              refine ret_ex rfl ?_
              simp [results, Try.results7, go_sem, k0, k1, k2]
              obtain ⟨z, hz⟩ := h2
              exact ⟨⟨U, R, B, up, row, co, rt⟩, ⟨⟨rfl, rfl, rfl⟩, ⟨rfl, rfl, rfl⟩, rfl, rfl, rfl⟩, n, hn1, hn2, j, hjr, h1, ⟨⟨z.val, z.tp, z.at_.mono (by omega)⟩, hz⟩⟩
end Go.Proofs.Ythbdkhmgopahbaa
