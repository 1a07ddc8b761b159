/-
  The law of the order of fractions, walked.
-/
import Derived.Test.YthlaejodajdioaaFOrdM
import Derived.Laws.StructEq
import Derived.WalkKit
import Derived.Deep.CutBlock
import Derived.Deep.DeepCutAuto
set_option linter.unusedVariables false
namespace Go.Proofs.Ythlaejodajdioaa
open Go Go.RowKit Go.Deep
def In64 (n : Int) : Prop := -9223372036854775808 ≤ n ∧ n ≤ 9223372036854775807
theorem eqIn_fr (n d n' d' : Int) (w : World) : (Op.equalIn 10000 23 (.agg #[.int .i64 n, .int .i64 d]) (.agg #[.int .i64 n', .int .i64 d'])).run Try.prog w = .ok (n == n' && d == d') w := by
  have hS : Try.prog.underlying 23 = some (.struct (Try.prog.fieldsOf 23)) := by kernel_rfl
  have hp : Try.prog.stoodInHeld 23 = false := by kernel_rfl
  have u2 := Try.underlying2
  have a2 := Try.isAgg2
  have z2 := Try.sizeOf2
  rw [show (10000 : Nat) = 9999 + 1 from rfl, run_equalIn_agg w 9999 _ _ _ hS hp]
  simp only [Program.fieldsOf, Try.underlying23]
  go_simp
  by_cases h1 : n = n' <;> by_cases h2 : d = d' <;> simp [h1, h2]
theorem Cmp_at (n d n' d' : Int) (h : In64 n) (h' : In64 d) (k : In64 n') (k' : In64 d') (W : World) : Calls Try.prog 18 #[.agg #[.int .i64 n, .int .i64 d], .agg #[.int .i64 n', .int .i64 d']] W fun e w' => e = .returned (.int .i64 (cpF n d n' d')) ∧ Cls W w' :=
  Compare_calls n d n' d' W h.1 h.2 h'.1 h'.2 k.1 k.2 k'.1 k'.2
theorem Flr_at (n d : Int) (h : In64 n) (h' : In64 d) (W : World) : Calls Try.prog 19 #[.agg #[.int .i64 n, .int .i64 d]] W fun e w' => e = .returned (.int .i64 (flF n d)) ∧ Cls W w' :=
  Floor_calls n d W h.1 h.2 h'.1 h'.2
set_option maxHeartbeats 8000000 in
set_option maxRecDepth 20000 in
theorem orders_no (an ad bn bd cn cd : Int) (w : World) (h1 : In64 an) (h2 : In64 ad) (hv : ¬ (vaB an ad = true ∧ vaB bn bd = true ∧ vaB cn cd = true)) :
    Calls Try.prog 5 #[.agg #[.int .i64 an, .int .i64 ad], .agg #[.int .i64 bn, .int .i64 bd], .agg #[.int .i64 cn, .int .i64 cd]] w fun e w' => e = .returned (.bool true) ∧ Cls w w' := by
  have V1 := Lib.hid (fun W => rValid_calls an ad W)
  have V2 := Lib.hid (fun W => rValid_calls bn bd W)
  have V3 := Lib.hid (fun W => rValid_calls cn cd W)
  have K1 := Lib.hid (fun W => Cmp_at an ad an ad h1 h2 h1 h2 W)
  have K2 := Lib.hid (fun W => Flr_at an ad h1 h2 W)
  rw [cpF_same] at K1
  cases ha : vaB an ad with
  | false =>
    have e : flF an ad = 0 := by simp [flF, ha]
    rw [e] at K2
    rw [ha] at V1
    clear h1 h2 hv V2 V3 ha e
    go_enter Try.func5, Try.ntmps5
    go_wp2_with (first | (go_at_call 10; (with_reducible refine (V1.out _).mono ?_); rintro e _ ⟨rfl, ⟨y1, rfl⟩⟩; have y1s := y1.size; (try simp at y1s); have y1a : w.heap.size < y1.val.heap.size := (by omega); have y1b : w.heap.size + 1 < y1.val.heap.size := (by omega); have y1c : w.heap.size + 1 + 1 < y1.val.heap.size := (by omega)) | (go_at_call 18; (with_reducible refine (K1.out _).mono ?_); rintro e _ ⟨rfl, ⟨y2, rfl⟩⟩; have y2s := y2.size; (try simp at y2s); have y2a : w.heap.size < y2.val.heap.size := (by omega); have y2b : w.heap.size + 1 < y2.val.heap.size := (by omega); have y2c : w.heap.size + 1 + 1 < y2.val.heap.size := (by omega)) | (go_at_call 19; (with_reducible refine (K2.out _).mono ?_); rintro e _ ⟨rfl, ⟨y3, rfl⟩⟩; have y3s := y3.size; (try simp at y3s); have y3a : w.heap.size < y3.val.heap.size := (by omega); have y3b : w.heap.size + 1 < y3.val.heap.size := (by omega); have y3c : w.heap.size + 1 + 1 < y3.val.heap.size := (by omega)))
    go_ret
    refine ⟨rfl, Cls.of ?_⟩
    repeat first | with_reducible exact Below.refl _ _ | with_reducible refine Below.setCell ?_ (by first | omega | (simp; done) | (simp; omega)) _ | with_reducible refine Below.alloc ?_ (by first | omega | (simp; done) | (simp; omega)) _ | with_reducible refine Below.drew ?_ | with_reducible refine Ext.on _ ?_ (by first | omega | (simp; done) | (simp; omega))
  | true =>
    rw [ha] at V1
    cases hb : vaB bn bd with
    | false =>
      rw [hb] at V2
      clear h1 h2 hv V3 K2 ha hb
      go_enter Try.func5, Try.ntmps5
      go_wp2_with (first | (go_at_call 10; (with_reducible refine (V1.out _).mono ?_); rintro e _ ⟨rfl, ⟨y1, rfl⟩⟩; have y1s := y1.size; (try simp at y1s); have y1a : w.heap.size < y1.val.heap.size := (by omega); have y1b : w.heap.size + 1 < y1.val.heap.size := (by omega); have y1c : w.heap.size + 1 + 1 < y1.val.heap.size := (by omega)) | (go_at_call 10; (with_reducible refine (V2.out _).mono ?_); rintro e _ ⟨rfl, ⟨y4, rfl⟩⟩; have y4s := y4.size; (try simp at y4s); have y4a : w.heap.size < y4.val.heap.size := (by omega); have y4b : w.heap.size + 1 < y4.val.heap.size := (by omega); have y4c : w.heap.size + 1 + 1 < y4.val.heap.size := (by omega)) | (go_at_call 18; (with_reducible refine (K1.out _).mono ?_); rintro e _ ⟨rfl, ⟨y2, rfl⟩⟩; have y2s := y2.size; (try simp at y2s); have y2a : w.heap.size < y2.val.heap.size := (by omega); have y2b : w.heap.size + 1 < y2.val.heap.size := (by omega); have y2c : w.heap.size + 1 + 1 < y2.val.heap.size := (by omega)))
      go_ret
      refine ⟨rfl, Cls.of ?_⟩
      repeat first | with_reducible exact Below.refl _ _ | with_reducible refine Below.setCell ?_ (by first | omega | (simp; done) | (simp; omega)) _ | with_reducible refine Below.alloc ?_ (by first | omega | (simp; done) | (simp; omega)) _ | with_reducible refine Below.drew ?_ | with_reducible refine Ext.on _ ?_ (by first | omega | (simp; done) | (simp; omega))
    | true =>
      have hc : vaB cn cd = false := by
        cases hc : vaB cn cd with
        | false => rfl
        | true => exact absurd ⟨ha, hb, hc⟩ hv
      rw [hb] at V2
      rw [hc] at V3
      clear h1 h2 hv K2 ha hb hc
      go_enter Try.func5, Try.ntmps5
      go_wp2_with (first | (go_at_call 10; (with_reducible refine (V1.out _).mono ?_); rintro e _ ⟨rfl, ⟨y1, rfl⟩⟩; have y1s := y1.size; (try simp at y1s); have y1a : w.heap.size < y1.val.heap.size := (by omega); have y1b : w.heap.size + 1 < y1.val.heap.size := (by omega); have y1c : w.heap.size + 1 + 1 < y1.val.heap.size := (by omega)) | (go_at_call 10; (with_reducible refine (V2.out _).mono ?_); rintro e _ ⟨rfl, ⟨y4, rfl⟩⟩; have y4s := y4.size; (try simp at y4s); have y4a : w.heap.size < y4.val.heap.size := (by omega); have y4b : w.heap.size + 1 < y4.val.heap.size := (by omega); have y4c : w.heap.size + 1 + 1 < y4.val.heap.size := (by omega)) | (go_at_call 10; (with_reducible refine (V3.out _).mono ?_); rintro e _ ⟨rfl, ⟨y5, rfl⟩⟩; have y5s := y5.size; (try simp at y5s); have y5a : w.heap.size < y5.val.heap.size := (by omega); have y5b : w.heap.size + 1 < y5.val.heap.size := (by omega); have y5c : w.heap.size + 1 + 1 < y5.val.heap.size := (by omega)) | (go_at_call 18; (with_reducible refine (K1.out _).mono ?_); rintro e _ ⟨rfl, ⟨y2, rfl⟩⟩; have y2s := y2.size; (try simp at y2s); have y2a : w.heap.size < y2.val.heap.size := (by omega); have y2b : w.heap.size + 1 < y2.val.heap.size := (by omega); have y2c : w.heap.size + 1 + 1 < y2.val.heap.size := (by omega)))
      go_ret
      refine ⟨rfl, Cls.of ?_⟩
      repeat first | with_reducible exact Below.refl _ _ | with_reducible refine Below.setCell ?_ (by first | omega | (simp; done) | (simp; omega)) _ | with_reducible refine Below.alloc ?_ (by first | omega | (simp; done) | (simp; omega)) _ | with_reducible refine Below.drew ?_ | with_reducible refine Ext.on _ ?_ (by first | omega | (simp; done) | (simp; omega))
set_option maxHeartbeats 16000000 in
set_option maxRecDepth 20000 in
theorem orders_yes (an ad bn bd cn cd : Int) (w : World) (h1 : In64 an) (h2 : In64 ad) (h3 : In64 bn) (h4 : In64 bd) (h5 : In64 cn) (h6 : In64 cd) (ha : vaB an ad = true) (hb : vaB bn bd = true) (hc : vaB cn cd = true) :
    Calls Try.prog 5 #[.agg #[.int .i64 an, .int .i64 ad], .agg #[.int .i64 bn, .int .i64 bd], .agg #[.int .i64 cn, .int .i64 cd]] w fun e w' => e = .returned (.bool true) ∧ Cls w w' := by
  obtain ⟨a1, a2, a3, a4⟩ := vaB_rng ha
  obtain ⟨b1, b2, b3, b4⟩ := vaB_rng hb
  obtain ⟨c1, c2, c3, c4⟩ := vaB_rng hc
  have hfl := floor_in (d := ad) ⟨a3, a4⟩ a1
  have hfg := floor_ge a3 a1
  have hfv : vaB (an / ad) 1 = true := whole_valid hfg hfl.2
  have m1 : In64 (an / ad) := by unfold In64; omega
  have m2 : In64 (an / ad + 1) := by unfold In64; omega
  have m3 : In64 1 := by unfold In64; omega
  have V1 := Lib.hid (fun W => rValid_calls an ad W)
  have V2 := Lib.hid (fun W => rValid_calls bn bd W)
  have V3 := Lib.hid (fun W => rValid_calls cn cd W)
  have V4 := Lib.hid (fun W => rValid_calls (an / ad + 1) 1 W)
  have F1 := Lib.hid (fun W => Flr_at an ad h1 h2 W)
  have K1 := Lib.hid (fun W => Cmp_at an ad bn bd h1 h2 h3 h4 W)
  have K2 := Lib.hid (fun W => Cmp_at bn bd an ad h3 h4 h1 h2 W)
  have K3 := Lib.hid (fun W => Cmp_at bn bd cn cd h3 h4 h5 h6 W)
  have K4 := Lib.hid (fun W => Cmp_at an ad cn cd h1 h2 h5 h6 W)
  have K5 := Lib.hid (fun W => Cmp_at (an / ad) 1 an ad m1 m3 h1 h2 W)
  have K6 := Lib.hid (fun W => Cmp_at an ad (an / ad + 1) 1 h1 h2 m2 m3 W)
  have hF : flF an ad = an / ad := by simp [flF, ha]
  have T0 : Hid (crs an ad bn bd ≤ 0 → crs bn bd cn cd ≤ 0 → crs an ad cn cd ≤ 0) := Lib.hid (crs_trans a1 b1 c1)
  have T1 : Hid (crs (an / ad) 1 an ad ≤ 0) := Lib.hid (floor_cmp ha)
  have T2 : Hid (vaB (an / ad + 1) 1 = true → cpF an ad (an / ad + 1) 1 < 0) := Lib.hid fun h => by rw [cpF_val ha h]; exact floor_next ha
  have T3 : Hid ((an == bn && ad == bd) = (crs an ad bn bd == 0)) := Lib.hid (by
    have := crs_eq ha hb
    rw [Bool.eq_iff_iff]
    simp
    exact this.symm)
  have T4 := Lib.hid (cmpI_cases (an * bd) (bn * ad))
  have T5 := Lib.hid (cmpI_cases (bn * cd) (cn * bd))
  have T6 := Lib.hid (cmpI_cases (an * cd) (cn * ad))
  have HEQ := eqIn_fr an ad bn bd
  rw [hF] at F1
  rw [cpF_val ha hb] at K1
  rw [cpF_val hb ha, crs_anti] at K2
  rw [cpF_val hb hc] at K3
  rw [cpF_val ha hc] at K4
  rw [cpF_val hfv ha] at K5
  rw [ha] at V1
  rw [hb] at V2
  rw [hc] at V3
  have R1 : Hid (crs an ad bn bd = -1 ∨ crs an ad bn bd = 0 ∨ crs an ad bn bd = 1) := Lib.hid (by unfold crs; rcases T4.out with ⟨h, _⟩ | ⟨h, _⟩ | ⟨h, _⟩ <;> omega)
  have R2 : Hid (crs bn bd cn cd = -1 ∨ crs bn bd cn cd = 0 ∨ crs bn bd cn cd = 1) := Lib.hid (by unfold crs; rcases T5.out with ⟨h, _⟩ | ⟨h, _⟩ | ⟨h, _⟩ <;> omega)
  have R3 : Hid (crs an ad cn cd = -1 ∨ crs an ad cn cd = 0 ∨ crs an ad cn cd = 1) := Lib.hid (by unfold crs; rcases T6.out with ⟨h, _⟩ | ⟨h, _⟩ | ⟨h, _⟩ <;> omega)
  clear T4 T5 T6 hF hfv m1 m2 m3 h1 h2 h3 h4 h5 h6 ha hb hc a1 a2 a3 a4 b1 b2 b3 b4 c1 c2 c3 c4
  generalize (an == bn && ad == bd) = eb at *
  generalize crs an ad bn bd = cab at *
  generalize crs bn bd cn cd = cbc at *
  generalize crs an ad cn cd = cac at *
  generalize crs (an / ad) 1 an ad = cna at *
  generalize cpF an ad (an / ad + 1) 1 = cam at *
  generalize vaB (an / ad + 1) 1 = vm at *
  generalize an / ad = fl at *
  go_enter Try.func5, Try.ntmps5
  go_upto_region 3 with (first | (go_at_call 10; (with_reducible refine (V1.out _).mono ?_); rintro e _ ⟨rfl, ⟨y1, rfl⟩⟩; have y1s := y1.size; (try simp at y1s); have y1a : w.heap.size < y1.val.heap.size := (by omega); have y1b : w.heap.size + 1 < y1.val.heap.size := (by omega); have y1c : w.heap.size + 1 + 1 < y1.val.heap.size := (by omega)) | (go_at_call 10; (with_reducible refine (V2.out _).mono ?_); rintro e _ ⟨rfl, ⟨y2, rfl⟩⟩; have y2s := y2.size; (try simp at y2s); have y2a : w.heap.size < y2.val.heap.size := (by omega); have y2b : w.heap.size + 1 < y2.val.heap.size := (by omega); have y2c : w.heap.size + 1 + 1 < y2.val.heap.size := (by omega)) | (go_at_call 10; (with_reducible refine (V3.out _).mono ?_); rintro e _ ⟨rfl, ⟨y3, rfl⟩⟩; have y3s := y3.size; (try simp at y3s); have y3a : w.heap.size < y3.val.heap.size := (by omega); have y3b : w.heap.size + 1 < y3.val.heap.size := (by omega); have y3c : w.heap.size + 1 + 1 < y3.val.heap.size := (by omega)))
  go_cut [60] (fun s60 wx => s60 = .bool false ∧ Cls y2.val wx)
  case first =>
    rcases R1.out with h | h | h
    · subst h
      rcases R2.out with h | h | h
      · subst h
        have h9 := T0.out (by omega) (by omega)
        rcases R3.out with h | h | h
        · subst h
          go_wp2_with fail
          refine wp_region_on (by kernel_rfl) (by kernel_rfl) ?_
          repeat (go_big_quiet_step (first | (go_at_call 18; with_reducible exact Cls.call (K1.out _)) | (go_at_call 18; with_reducible exact Cls.call (K2.out _)) | (go_at_call 18; with_reducible exact Cls.call (K3.out _)) | (go_at_call 18; with_reducible exact Cls.call (K4.out _))))
          refine wpQuiet_nil ?_
          rintro _ ⟨z, rfl⟩
          go_wp2_with fail
          go_meet
          case rel => exact ⟨rfl, z, rfl⟩
        · subst h
          go_wp2_with fail
          refine wp_region_on (by kernel_rfl) (by kernel_rfl) ?_
          repeat (go_big_quiet_step (first | (go_at_call 18; with_reducible exact Cls.call (K1.out _)) | (go_at_call 18; with_reducible exact Cls.call (K2.out _)) | (go_at_call 18; with_reducible exact Cls.call (K3.out _)) | (go_at_call 18; with_reducible exact Cls.call (K4.out _))))
          refine wpQuiet_nil ?_
          rintro _ ⟨z, rfl⟩
          go_wp2_with fail
          go_meet
          case rel => exact ⟨rfl, z, rfl⟩
        · omega
      · subst h
        have h9 := T0.out (by omega) (by omega)
        rcases R3.out with h | h | h
        · subst h
          go_wp2_with fail
          refine wp_region_on (by kernel_rfl) (by kernel_rfl) ?_
          repeat (go_big_quiet_step (first | (go_at_call 18; with_reducible exact Cls.call (K1.out _)) | (go_at_call 18; with_reducible exact Cls.call (K2.out _)) | (go_at_call 18; with_reducible exact Cls.call (K3.out _)) | (go_at_call 18; with_reducible exact Cls.call (K4.out _))))
          refine wpQuiet_nil ?_
          rintro _ ⟨z, rfl⟩
          go_wp2_with fail
          go_meet
          case rel => exact ⟨rfl, z, rfl⟩
        · subst h
          go_wp2_with fail
          refine wp_region_on (by kernel_rfl) (by kernel_rfl) ?_
          repeat (go_big_quiet_step (first | (go_at_call 18; with_reducible exact Cls.call (K1.out _)) | (go_at_call 18; with_reducible exact Cls.call (K2.out _)) | (go_at_call 18; with_reducible exact Cls.call (K3.out _)) | (go_at_call 18; with_reducible exact Cls.call (K4.out _))))
          refine wpQuiet_nil ?_
          rintro _ ⟨z, rfl⟩
          go_wp2_with fail
          go_meet
          case rel => exact ⟨rfl, z, rfl⟩
        · omega
      · subst h
        go_wp2_with fail
        refine wp_region_on (by kernel_rfl) (by kernel_rfl) ?_
        repeat (go_big_quiet_step (first | (go_at_call 18; with_reducible exact Cls.call (K1.out _)) | (go_at_call 18; with_reducible exact Cls.call (K2.out _)) | (go_at_call 18; with_reducible exact Cls.call (K3.out _)) | (go_at_call 18; with_reducible exact Cls.call (K4.out _))))
        refine wpQuiet_nil ?_
        rintro _ ⟨z, rfl⟩
        go_wp2_with fail
        go_meet
        case rel => exact ⟨rfl, z, rfl⟩
    · subst h
      rcases R2.out with h | h | h
      · subst h
        have h9 := T0.out (by omega) (by omega)
        rcases R3.out with h | h | h
        · subst h
          go_wp2_with fail
          refine wp_region_on (by kernel_rfl) (by kernel_rfl) ?_
          repeat (go_big_quiet_step (first | (go_at_call 18; with_reducible exact Cls.call (K1.out _)) | (go_at_call 18; with_reducible exact Cls.call (K2.out _)) | (go_at_call 18; with_reducible exact Cls.call (K3.out _)) | (go_at_call 18; with_reducible exact Cls.call (K4.out _))))
          refine wpQuiet_nil ?_
          rintro _ ⟨z, rfl⟩
          go_wp2_with fail
          go_meet
          case rel => exact ⟨rfl, z, rfl⟩
        · subst h
          go_wp2_with fail
          refine wp_region_on (by kernel_rfl) (by kernel_rfl) ?_
          repeat (go_big_quiet_step (first | (go_at_call 18; with_reducible exact Cls.call (K1.out _)) | (go_at_call 18; with_reducible exact Cls.call (K2.out _)) | (go_at_call 18; with_reducible exact Cls.call (K3.out _)) | (go_at_call 18; with_reducible exact Cls.call (K4.out _))))
          refine wpQuiet_nil ?_
          rintro _ ⟨z, rfl⟩
          go_wp2_with fail
          go_meet
          case rel => exact ⟨rfl, z, rfl⟩
        · omega
      · subst h
        have h9 := T0.out (by omega) (by omega)
        rcases R3.out with h | h | h
        · subst h
          go_wp2_with fail
          refine wp_region_on (by kernel_rfl) (by kernel_rfl) ?_
          repeat (go_big_quiet_step (first | (go_at_call 18; with_reducible exact Cls.call (K1.out _)) | (go_at_call 18; with_reducible exact Cls.call (K2.out _)) | (go_at_call 18; with_reducible exact Cls.call (K3.out _)) | (go_at_call 18; with_reducible exact Cls.call (K4.out _))))
          refine wpQuiet_nil ?_
          rintro _ ⟨z, rfl⟩
          go_wp2_with fail
          go_meet
          case rel => exact ⟨rfl, z, rfl⟩
        · subst h
          go_wp2_with fail
          refine wp_region_on (by kernel_rfl) (by kernel_rfl) ?_
          repeat (go_big_quiet_step (first | (go_at_call 18; with_reducible exact Cls.call (K1.out _)) | (go_at_call 18; with_reducible exact Cls.call (K2.out _)) | (go_at_call 18; with_reducible exact Cls.call (K3.out _)) | (go_at_call 18; with_reducible exact Cls.call (K4.out _))))
          refine wpQuiet_nil ?_
          rintro _ ⟨z, rfl⟩
          go_wp2_with fail
          go_meet
          case rel => exact ⟨rfl, z, rfl⟩
        · omega
      · subst h
        go_wp2_with fail
        refine wp_region_on (by kernel_rfl) (by kernel_rfl) ?_
        repeat (go_big_quiet_step (first | (go_at_call 18; with_reducible exact Cls.call (K1.out _)) | (go_at_call 18; with_reducible exact Cls.call (K2.out _)) | (go_at_call 18; with_reducible exact Cls.call (K3.out _)) | (go_at_call 18; with_reducible exact Cls.call (K4.out _))))
        refine wpQuiet_nil ?_
        rintro _ ⟨z, rfl⟩
        go_wp2_with fail
        go_meet
        case rel => exact ⟨rfl, z, rfl⟩
    · subst h
      go_wp2_with fail
      refine wp_region_on (by kernel_rfl) (by kernel_rfl) ?_
      repeat (go_big_quiet_step (first | (go_at_call 18; with_reducible exact Cls.call (K1.out _)) | (go_at_call 18; with_reducible exact Cls.call (K2.out _)) | (go_at_call 18; with_reducible exact Cls.call (K3.out _)) | (go_at_call 18; with_reducible exact Cls.call (K4.out _))))
      refine wpQuiet_nil ?_
      rintro _ ⟨z, rfl⟩
      go_wp2_with fail
      go_meet
      case rel => exact ⟨rfl, z, rfl⟩
  case rest =>
  obtain ⟨hs, z, hz⟩ := hcut
  subst hs hz
  have zs := z.size
  have za : w.heap.size < z.val.heap.size := by omega
  have zb : w.heap.size + 1 < z.val.heap.size := by omega
  have zc : w.heap.size + 1 + 1 < z.val.heap.size := by omega
  have hzb := Lib.hid (z.on (y2.on (y1.on ((((Below.refl w.heap.size w).alloc (Nat.le_refl _) (.cells #[.int .i64 an, .int .i64 ad] 23)).alloc (by simp) (.cells #[.int .i64 bn, .int .i64 bd] 23)).alloc (by simp; omega) (.cells #[.int .i64 cn, .int .i64 cd] 23)) (by simp; omega)) (by omega)) (by omega))
  obtain ⟨hfl1, hfl2⟩ := hfl
  have d1 : decide (cna ≤ 0) = true := decide_eq_true T1.out
  have d2 : (cab == 0) = eb := T3.out.symm
  clear T0 T1 T3 R1 R2 R3 K2 K3 K4 V1 V2 V3
  cases vm with
  | true =>
    have d3 : decide (cam < 0) = true := decide_eq_true (T2.out rfl)
    clear T2
    cases eb
    all_goals
      go_wp2_with (go_at_call 19; (with_reducible refine (F1.out _).mono ?_); rintro e _ ⟨rfl, ⟨y4, rfl⟩⟩; have y4s := y4.size; have y4a : w.heap.size < y4.val.heap.size + 1 + 1 := (by omega); have y4b : w.heap.size + 1 < y4.val.heap.size + 1 + 1 := (by omega); have y4c : w.heap.size < y4.val.heap.size := (by omega); have y4d : w.heap.size + 1 < y4.val.heap.size := (by omega))
      refine wp_region_ext (by kernel_rfl) (by kernel_rfl) ?_
      repeat (go_big_quiet_step (first | (go_at_call 18; with_reducible exact Cls.call (K1.out _)) | (go_at_call 18; with_reducible exact Cls.call (K5.out _)) | (go_at_call 18; with_reducible exact Cls.call (K6.out _)) | (go_at_call 10; with_reducible exact Cls.call (V4.out _))))
      refine wpQuiet_nil ?_
      rintro _ ⟨y9, rfl⟩
      go_wp2_with fail
      go_ret
      refine ⟨rfl, Cls.of ?_⟩
      refine Ext.on _ ?_ (by simp; omega)
      refine Below.alloc ?_ (by first | omega | (simp; omega)) _
      refine Below.alloc ?_ (by first | omega | (simp; omega)) _
      exact Ext.on _ hzb.out (by omega)
  | false =>
    clear T2
    cases eb
    all_goals
      go_wp2_with (go_at_call 19; (with_reducible refine (F1.out _).mono ?_); rintro e _ ⟨rfl, ⟨y4, rfl⟩⟩; have y4s := y4.size; have y4a : w.heap.size < y4.val.heap.size + 1 + 1 := (by omega); have y4b : w.heap.size + 1 < y4.val.heap.size + 1 + 1 := (by omega); have y4c : w.heap.size < y4.val.heap.size := (by omega); have y4d : w.heap.size + 1 < y4.val.heap.size := (by omega))
      refine wp_region_ext (by kernel_rfl) (by kernel_rfl) ?_
      repeat (go_big_quiet_step (first | (go_at_call 18; with_reducible exact Cls.call (K1.out _)) | (go_at_call 18; with_reducible exact Cls.call (K5.out _)) | (go_at_call 18; with_reducible exact Cls.call (K6.out _)) | (go_at_call 10; with_reducible exact Cls.call (V4.out _))))
      refine wpQuiet_nil ?_
      rintro _ ⟨y9, rfl⟩
      go_wp2_with fail
      go_ret
      refine ⟨rfl, Cls.of ?_⟩
      refine Ext.on _ ?_ (by simp; omega)
      refine Below.alloc ?_ (by first | omega | (simp; omega)) _
      refine Below.alloc ?_ (by first | omega | (simp; omega)) _
      exact Ext.on _ hzb.out (by omega)
theorem In64.of {n : Int} (h : (Lit.int .i64 n).wf = true) : In64 n := by
  unfold In64
  simp [Lit.wf, IntKind.min, IntKind.max, IntKind.bits, IntKind.signed] at h
  omega
theorem fractionOrders_walk (an ad bn bd cn cd : Int) (w : World) (h1 : (Lit.int .i64 an).wf = true) (h2 : (Lit.int .i64 ad).wf = true) (h3 : (Lit.int .i64 bn).wf = true) (h4 : (Lit.int .i64 bd).wf = true) (h5 : (Lit.int .i64 cn).wf = true) (h6 : (Lit.int .i64 cd).wf = true) :
    Calls Try.prog 5 #[.agg #[.int .i64 an, .int .i64 ad], .agg #[.int .i64 bn, .int .i64 bd], .agg #[.int .i64 cn, .int .i64 cd]] w fun e w' => e = .returned (.bool true) ∧ Below w.heap.size w w' := by
  by_cases hv : vaB an ad = true ∧ vaB bn bd = true ∧ vaB cn cd = true
  · exact (orders_yes an ad bn bd cn cd w (.of h1) (.of h2) (.of h3) (.of h4) (.of h5) (.of h6) hv.1 hv.2.1 hv.2.2).mono fun _ _ ⟨he, hc⟩ => ⟨he, hc.below⟩
  · exact (orders_no an ad bn bd cn cd w (.of h1) (.of h2) hv).mono fun _ _ ⟨he, hc⟩ => ⟨he, hc.below⟩
end Go.Proofs.Ythlaejodajdioaa
