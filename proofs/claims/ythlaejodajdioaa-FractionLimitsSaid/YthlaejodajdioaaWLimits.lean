/-
  The law of the limits, walked.
-/
import Derived.Test.YthlaejodajdioaaFBig7
import Derived.Test.YthlaejodajdioaaNew
import Derived.Laws.StructEq
import Derived.WalkKit
import Derived.Deep.CutBlock
import Derived.Deep.DeepCutAuto
set_option linter.unusedVariables false
namespace Go.Proofs.Ythlaejodajdioaa
open Go Go.RowKit Go.Deep
theorem eqIn_fr4 (n d n' d' : Int) (w : World) : (Op.equalIn 10000 23 (.agg #[.int .i64 n, .int .i64 d]) (.agg #[.int .i64 n', .int .i64 d'])).run Try.prog w = .ok (n == n' && d == d') w := by
  have hS : Try.prog.underlying 23 = some (.struct (Try.prog.fieldsOf 23)) := by kernel_rfl
  have hp : Try.prog.stoodInHeld 23 = false := by kernel_rfl
  have u2 := Try.underlying2
  have a2 := Try.isAgg2
  have z2 := Try.sizeOf2
  rw [show (10000 : Nat) = 9999 + 1 from rfl, run_equalIn_agg w 9999 _ _ _ hS hp]
  simp only [Program.fieldsOf, Try.underlying23]
  go_simp
  by_cases h1 : n = n' <;> by_cases h2 : d = d' <;> simp [h1, h2]
/-- The law's list, in a later world. -/
structure LI (B S : Int) (w wr : World) : Prop where
  row : wr.heap[w.heap.size + 1 + 1]? = some (.cells #[.int .i64 B, .int .i64 1, .int .i64 1, .int .i64 S, .int .i64 (-B), .int .i64 1, .int .i64 1, .int .i64 B] 23)
  bel : Below w.heap.size w wr
theorem LI.ext {B S : Int} {w wr : World} (h : LI B S w wr) (y : Ext wr) : LI B S w y.val := by
  have hl := (Array.getElem?_eq_some_iff.1 h.row).1
  exact ⟨(y.below.block _ hl).trans h.row, y.on h.bel (by omega)⟩
theorem LI.at {B S : Int} {w wr : World} (h : LI B S w wr) (hB : In64 B) (hS : In64 S) (hB' : In64 (-B)) {i : Nat} (hi : i < 4) :
    ∃ a b : Int, In64 a ∧ In64 b ∧ (∀ W : World, LI B S w W → W.cell? ⟨w.heap.size + 1 + 1, i * 2, none⟩ = some (.int .i64 a) ∧ W.cell? ⟨w.heap.size + 1 + 1, i * 2 + 1, none⟩ = some (.int .i64 b)) := by
  have h1 : In64 1 := by unfold In64; omega
  rcases (by omega : i = 0 ∨ i = 1 ∨ i = 2 ∨ i = 3) with rfl | rfl | rfl | rfl
  · exact ⟨B, 1, hB, h1, fun W hW => ⟨(cell_of_row _ _ _ _ _ (0, 0) hW.row).trans rfl, (cell_of_row _ _ _ _ _ (0, 0) hW.row).trans rfl⟩⟩
  · exact ⟨1, S, h1, hS, fun W hW => ⟨(cell_of_row _ _ _ _ _ (0, 0) hW.row).trans rfl, (cell_of_row _ _ _ _ _ (0, 0) hW.row).trans rfl⟩⟩
  · exact ⟨-B, 1, hB', h1, fun W hW => ⟨(cell_of_row _ _ _ _ _ (0, 0) hW.row).trans rfl, (cell_of_row _ _ _ _ _ (0, 0) hW.row).trans rfl⟩⟩
  · exact ⟨1, B, h1, hB, fun W hW => ⟨(cell_of_row _ _ _ _ _ (0, 0) hW.row).trans rfl, (cell_of_row _ _ _ _ _ (0, 0) hW.row).trans rfl⟩⟩
theorem keep_set {W : World} {b c : Nat} {o : Obj} (h : W.heap[b]? = some o) (hne : b ≠ c) (u v : Value) : ((W.setCell ⟨c, 0, none⟩ u).setCell ⟨c, 1, none⟩ v).heap[b]? = some o := by
  rw [heap_setCell_other _ _ _ _ hne, heap_setCell_other _ _ _ _ hne]
  exact h
theorem keep_ext {W : World} {b : Nat} {o : Obj} (h : W.heap[b]? = some o) (y : Ext W) : y.val.heap[b]? = some o := (y.below.block b (Array.getElem?_eq_some_iff.1 h).1).trans h
theorem LI.set {B S : Int} {w W : World} {c : Nat} (h : LI B S w W) (hc : w.heap.size + 1 + 1 < c) (u v : Value) : LI B S w ((W.setCell ⟨c, 0, none⟩ u).setCell ⟨c, 1, none⟩ v) :=
  ⟨keep_set h.row (by omega) u v, (h.bel.setCell (by show w.heap.size ≤ c; omega) u).setCell (by show w.heap.size ≤ c; omega) v⟩
theorem cell_g (W : World) (b g off : Nat) (v0 v1 : Value) (h : g ≠ b) : ((W.setCell ⟨b, 0, none⟩ v0).setCell ⟨b, 1, none⟩ v1).cell? ⟨g, off, none⟩ = W.cell? ⟨g, off, none⟩ := cell_after2 _ _ _ _ _ h
theorem cell_al (W : World) (o : Obj) (g off : Nat) (h : g < W.heap.size) : (W.alloc o).cell? ⟨g, off, none⟩ = W.cell? ⟨g, off, none⟩ := World.cell?_of_block (Below.heap_alloc _ _ _ h)
theorem LI.dr {B S : Int} {w W : World} (h : LI B S w W) : LI B S w W.drew := ⟨h.row, h.bel.drew⟩
theorem LI.al {B S : Int} {w W : World} (h : LI B S w W) (o : Obj) : LI B S w (W.alloc o) := by
  have hl := (Array.getElem?_eq_some_iff.1 h.row).1
  exact ⟨(Below.heap_alloc _ _ _ hl).trans h.row, h.bel.alloc (by omega) o⟩
theorem keep_al {W : World} {b : Nat} {o : Obj} (h : W.heap[b]? = some o) (o' : Obj) : (W.alloc o').heap[b]? = some o := (Below.heap_alloc _ _ _ (Array.getElem?_eq_some_iff.1 h).1).trans h
theorem keep_dr {W : World} {b : Nat} {o : Obj} (h : W.heap[b]? = some o) : W.drew.heap[b]? = some o := h
theorem keep_dal {W : World} {b : Nat} {o : Obj} (h : W.heap[b]? = some o) (o' : Obj) : (W.drew.alloc o').heap[b]? = some o := keep_al (keep_dr h) o'
theorem keep_new (W : World) (o : Obj) : (W.drew.alloc o).heap[W.heap.size]? = some o := heap_alloc_new W.drew o
theorem set_pair {W : World} {b : Nat} {n d : Int} (h : W.heap[b]? = some (.cells #[.int .i64 n, .int .i64 d] 23)) (x y : Int) : ((W.setCell ⟨b, 0, none⟩ (.int .i64 x)).setCell ⟨b, 1, none⟩ (.int .i64 y)).heap[b]? = some (.cells #[.int .i64 x, .int .i64 y] 23) := by
  have e1 := heap_setCell_same W b 0 _ _ (.int .i64 x) h
  have e2 := heap_setCell_same _ b 1 _ _ (.int .i64 y) e1
  rw [e2]
  rfl
set_option maxHeartbeats 16000000 in
set_option maxRecDepth 20000 in
theorem limits_core (n m B S : Int) (w : World) (hn : 0 ≤ n ∧ n < 4294967296) (hm : 0 ≤ m ∧ m < 4294967296) (hB : 100000000000000000 - n = B) (hS : 100000000000000000 - m = S) :
    Calls Try.prog 6 #[.int .u32 n, .int .u32 m] w fun e w' => e = .returned (.bool true) ∧ Cls w w' := by
  obtain ⟨n1, n2⟩ := hn
  obtain ⟨m1, m2⟩ := hm
  have w1 : IntKind.i64.wrap n = n := by rw [IntKind.wrap_i64]; omega
  have w2 : IntKind.i64.wrap m = m := by rw [IntKind.wrap_i64]; omega
  have w3 : IntKind.i64.wrap (100000000000000000 - n) = B := by rw [IntKind.wrap_i64]; omega
  have w4 : IntKind.i64.wrap (100000000000000000 - m) = S := by rw [IntKind.wrap_i64]; omega
  have w5 : IntKind.i64.wrap (-B) = -B := by rw [IntKind.wrap_i64]; omega
  have hb : In64 B := by unfold In64; omega
  have hs : In64 S := by unfold In64; omega
  have hb' : In64 (-B) := by unfold In64; omega
  have IB := Lib.hid hb
  have IS := Lib.hid hs
  have IB' := Lib.hid hb'
  clear n1 n2 m1 m2 hB hS hb hs hb'
  go_enter Try.func6, Try.ntmps6
  go_wp2_with fail
  go_loopw [8] (fun i wr => ∃ k : Nat, k ≤ 4 ∧ i = .int .i64 k ∧ Hid (LI B S w wr)) (fun i _ => (4 - intOf i).toNat)
  case atStart => exact ⟨0, by omega, rfl, Lib.hid ⟨new_at2 w _ _ _ _, (((Below.refl _ _).alloc (Nat.le_refl _) _).alloc (by simp) _).alloc (by simp; omega) _⟩⟩
  case round =>
    obtain ⟨i, hi, rfl, hI⟩ := hrel
    by_cases hlt : i < 4
    · have i4 : (i : Int) < 4 := (by omega)
      have i0 : 0 ≤ (i : Int) := (by omega)
      have di : decide ((i : Int) < 4) = true := decide_eq_true (by omega)
      obtain ⟨a, b, ha, hb, hc⟩ := hI.out.at IB.out IS.out IB'.out hlt
      have EA := Lib.hid ha
      have EB := Lib.hid hb
      have EC := Lib.hid hc
      clear ha hb hc
      go_wp2_with fail
      go_loopw [9] (fun i wr => ∃ k : Nat, k ≤ 4 ∧ i = .int .i64 k ∧ Hid (LI B S w wr)) (fun i _ => (4 - intOf i).toNat)
      case atStart => exact ⟨0, by omega, rfl, hI⟩
      case round =>
        obtain ⟨k, hk, rfl, hJ⟩ := hrel
        by_cases hlt' : k < 4
        · have k4 : (k : Int) < 4 := (by omega)
          have k0 : 0 ≤ (k : Int) := (by omega)
          have dk : decide ((k : Int) < 4) = true := decide_eq_true (by omega)
          obtain ⟨c, d, hc, hd, he⟩ := hJ.out.at IB.out IS.out IB'.out hlt'
          have ED := Lib.hid hc
          have EE := Lib.hid hd
          have EF := Lib.hid he
          clear hc hd he
          obtain ⟨c0, c1⟩ := EC.out _ hJ.out
          obtain ⟨f0, f1⟩ := EF.out _ hJ.out
          have G1 := Lib.hid (fun W => Mul_calls a b c d W EA.out EB.out ED.out EE.out)
          have H1 := Lib.hid (fun W => rMul_calls a b c d W EA.out EB.out ED.out EE.out)
          unfold rsV at G1 H1
          generalize rsN (vaB a b && vaB c d) (a * c) (b.natAbs * d.natAbs) = n1 at *
          generalize rsD (vaB a b && vaB c d) (a * c) (b.natAbs * d.natAbs) = d1 at *
          generalize rsE (vaB a b && vaB c d) (a * c) (b.natAbs * d.natAbs) = e1 at *
          have G2 := Lib.hid (fun W => Add_calls a b c d W EA.out EB.out ED.out EE.out)
          have H2 := Lib.hid (fun W => rAdd_calls a b c d W EA.out EB.out ED.out EE.out)
          unfold rsV at G2 H2
          generalize rsN (vaB a b && vaB c d) (a * d + c * b) (b.natAbs * d.natAbs) = n2 at *
          generalize rsD (vaB a b && vaB c d) (a * d + c * b) (b.natAbs * d.natAbs) = d2 at *
          generalize rsE (vaB a b && vaB c d) (a * d + c * b) (b.natAbs * d.natAbs) = e2 at *
          have G3 := Lib.hid (fun W => Compare_calls a b c d W EA.out.1 EA.out.2 EB.out.1 EB.out.2 ED.out.1 ED.out.2 EE.out.1 EE.out.2)
          have H3 := Lib.hid (fun W => rCompare_calls a b c d W EA.out EB.out ED.out EE.out)
          generalize cpF a b c d = cp at *
          have Q1 : ∀ W, _ := eqIn_fr4 n1 d1 n1 d1
          have Q2 : ∀ W, _ := eqIn_fr4 n2 d2 n2 d2
          simp only [beq_self_eq_true, Bool.and_self] at Q1 Q2
          have y0g := (Array.getElem?_eq_some_iff.1 hJ.out.row).1
          go_wp2_with fail
          have n0 := Nat.ne_of_lt y0g
          go_cut [10, 11] (fun sp se wx => ∃ b : Nat, sp = .pointer (some ⟨b, 0, none⟩) ∧ se = .int .i64 e1 ∧ w.heap.size + 1 + 1 < b ∧ Hid (LI B S w wx) ∧ Hid (wx.heap[b]? = some (.cells #[.int .i64 n1, .int .i64 d1] 23)))
          case first =>
            go_region_held3 (fun w' => w'.cell? ⟨w.heap.size + 1 + 1, i * 2, none⟩ = some (.int .i64 a) ∧ w'.cell? ⟨w.heap.size + 1 + 1, i * 2 + 1, none⟩ = some (.int .i64 b) ∧ w'.cell? ⟨w.heap.size + 1 + 1, k * 2, none⟩ = some (.int .i64 c) ∧ w'.cell? ⟨w.heap.size + 1 + 1, k * 2 + 1, none⟩ = some (.int .i64 d))
              (first | (go_keep; done) | ((repeat' apply And.intro) <;> (first | assumption | (rw [cell_al _ _ _ _ yg]; assumption) | (rw [cell_al _ _ _ _ y0g]; assumption) | (rw [cell_g _ _ _ _ _ _ n0]; assumption) | (rw [cell_g _ _ _ _ _ _ n1y]; assumption) | (rw [cell_g _ _ _ _ _ _ n1y, cell_al _ _ _ _ yg]; assumption))))
              (first | (go_at_call 13; (with_reducible refine Calls.mono (G1.out _) ?_); rintro e _ ⟨rfl, ⟨y, rfl⟩⟩; have ys := y.size; (try simp at ys); have yg : w.heap.size + 1 + 1 < y.val.heap.size := (by omega); have n1y := Nat.ne_of_lt yg; (first | (have HY := Lib.hid (hJ.out.dr.ext y)) | (have HY := Lib.hid ((hJ.out.dr.al _).ext y)) | (have HY := Lib.hid (hJ.out.ext y)) | (have HY := Lib.hid ((hJ.out.al _).ext y))); obtain ⟨t0, t1⟩ := EC.out _ HY.out; obtain ⟨t2, t3⟩ := EF.out _ HY.out))
            all_goals
              go_wp2_with fail
              go_meet
              case rel => first | exact ⟨_, rfl, rfl, y0g, Lib.hid (HY.out.set y0g _ _), Lib.hid (set_pair (keep_ext (keep_new _ _) y) _ _)⟩ | exact ⟨_, rfl, rfl, yg, Lib.hid (HY.out.al _), Lib.hid (heap_alloc_new _ _)⟩
          case rest =>
          obtain ⟨b1, hs, he, g1, I1, R1⟩ := hcut
          subst hs he
          obtain ⟨c0, c1⟩ := EC.out _ I1.out
          obtain ⟨f0, f1⟩ := EF.out _ I1.out
          have y0g := (Array.getElem?_eq_some_iff.1 I1.out.row).1
          go_wp2_with fail
          have n0 := Nat.ne_of_lt y0g
          have L1 := (Array.getElem?_eq_some_iff.1 R1.out).1
          go_cut [12, 13] (fun sp se wx => ∃ b : Nat, sp = .pointer (some ⟨b, 0, none⟩) ∧ se = .int .i64 e1 ∧ w.heap.size + 1 + 1 < b ∧ b1 ≠ b ∧ Hid (LI B S w wx) ∧ Hid (wx.heap[b]? = some (.cells #[.int .i64 n1, .int .i64 d1] 23)) ∧ Hid (wx.heap[b1]? = some (.cells #[.int .i64 n1, .int .i64 d1] 23)))
          case first =>
            go_region_held3 (fun w' => w'.cell? ⟨w.heap.size + 1 + 1, i * 2, none⟩ = some (.int .i64 a) ∧ w'.cell? ⟨w.heap.size + 1 + 1, i * 2 + 1, none⟩ = some (.int .i64 b) ∧ w'.cell? ⟨w.heap.size + 1 + 1, k * 2, none⟩ = some (.int .i64 c) ∧ w'.cell? ⟨w.heap.size + 1 + 1, k * 2 + 1, none⟩ = some (.int .i64 d))
              (first | (go_keep; done) | ((repeat' apply And.intro) <;> (first | assumption | (rw [cell_al _ _ _ _ yg]; assumption) | (rw [cell_al _ _ _ _ y0g]; assumption) | (rw [cell_g _ _ _ _ _ _ n0]; assumption) | (rw [cell_g _ _ _ _ _ _ n1y]; assumption) | (rw [cell_g _ _ _ _ _ _ n1y, cell_al _ _ _ _ yg]; assumption))))
              (first | (go_at_call 14; (with_reducible refine Calls.mono (H1.out _) ?_); rintro e _ ⟨rfl, ⟨y, rfl⟩⟩; have ys := y.size; (try simp at ys); have yg : w.heap.size + 1 + 1 < y.val.heap.size := (by omega); have n1y := Nat.ne_of_lt yg; (first | (have HY := Lib.hid (I1.out.dr.ext y)) | (have HY := Lib.hid ((I1.out.dr.al _).ext y)) | (have HY := Lib.hid (I1.out.ext y)) | (have HY := Lib.hid ((I1.out.al _).ext y))); obtain ⟨t0, t1⟩ := EC.out _ HY.out; obtain ⟨t2, t3⟩ := EF.out _ HY.out))
            all_goals
              go_wp2_with fail
              go_meet
              case rel => first | exact ⟨_, rfl, rfl, y0g, Nat.ne_of_lt L1, Lib.hid (HY.out.set y0g _ _), Lib.hid (set_pair (keep_ext (keep_new _ _) y) _ _), Lib.hid (keep_set (keep_ext (keep_dal R1.out _) y) (Nat.ne_of_lt L1) _ _)⟩ | exact ⟨_, rfl, rfl, yg, Nat.ne_of_lt (Nat.lt_of_lt_of_le L1 ys), Lib.hid (HY.out.al _), Lib.hid (heap_alloc_new _ _), Lib.hid (keep_al (keep_ext (keep_dr R1.out) y) _)⟩
          case rest =>
          obtain ⟨b2, hs, he, g2, z12, I2, R2, R1⟩ := hcut
          subst hs he
          obtain ⟨c0, c1⟩ := EC.out _ I2.out
          obtain ⟨f0, f1⟩ := EF.out _ I2.out
          have y0g := (Array.getElem?_eq_some_iff.1 I2.out.row).1
          go_wp2_with fail
          have n0 := Nat.ne_of_lt y0g
          have L1 := (Array.getElem?_eq_some_iff.1 R1.out).1
          have L2 := (Array.getElem?_eq_some_iff.1 R2.out).1
          go_cut [14, 15] (fun sp se wx => ∃ b : Nat, sp = .pointer (some ⟨b, 0, none⟩) ∧ se = .int .i64 e2 ∧ w.heap.size + 1 + 1 < b ∧ b1 ≠ b ∧ b2 ≠ b ∧ Hid (LI B S w wx) ∧ Hid (wx.heap[b]? = some (.cells #[.int .i64 n2, .int .i64 d2] 23)) ∧ Hid (wx.heap[b1]? = some (.cells #[.int .i64 n1, .int .i64 d1] 23)) ∧ Hid (wx.heap[b2]? = some (.cells #[.int .i64 n1, .int .i64 d1] 23)))
          case first =>
            go_region_held3 (fun w' => w'.cell? ⟨w.heap.size + 1 + 1, i * 2, none⟩ = some (.int .i64 a) ∧ w'.cell? ⟨w.heap.size + 1 + 1, i * 2 + 1, none⟩ = some (.int .i64 b) ∧ w'.cell? ⟨w.heap.size + 1 + 1, k * 2, none⟩ = some (.int .i64 c) ∧ w'.cell? ⟨w.heap.size + 1 + 1, k * 2 + 1, none⟩ = some (.int .i64 d))
              (first | (go_keep; done) | ((repeat' apply And.intro) <;> (first | assumption | (rw [cell_al _ _ _ _ yg]; assumption) | (rw [cell_al _ _ _ _ y0g]; assumption) | (rw [cell_g _ _ _ _ _ _ n0]; assumption) | (rw [cell_g _ _ _ _ _ _ n1y]; assumption) | (rw [cell_g _ _ _ _ _ _ n1y, cell_al _ _ _ _ yg]; assumption))))
              (first | (go_at_call 7; (with_reducible refine Calls.mono (G2.out _) ?_); rintro e _ ⟨rfl, ⟨y, rfl⟩⟩; have ys := y.size; (try simp at ys); have yg : w.heap.size + 1 + 1 < y.val.heap.size := (by omega); have n1y := Nat.ne_of_lt yg; (first | (have HY := Lib.hid (I2.out.dr.ext y)) | (have HY := Lib.hid ((I2.out.dr.al _).ext y)) | (have HY := Lib.hid (I2.out.ext y)) | (have HY := Lib.hid ((I2.out.al _).ext y))); obtain ⟨t0, t1⟩ := EC.out _ HY.out; obtain ⟨t2, t3⟩ := EF.out _ HY.out))
            all_goals
              go_wp2_with fail
              go_meet
              case rel => first | exact ⟨_, rfl, rfl, y0g, Nat.ne_of_lt L1, Nat.ne_of_lt L2, Lib.hid (HY.out.set y0g _ _), Lib.hid (set_pair (keep_ext (keep_new _ _) y) _ _), Lib.hid (keep_set (keep_ext (keep_dal R1.out _) y) (Nat.ne_of_lt L1) _ _), Lib.hid (keep_set (keep_ext (keep_dal R2.out _) y) (Nat.ne_of_lt L2) _ _)⟩ | exact ⟨_, rfl, rfl, yg, Nat.ne_of_lt (Nat.lt_of_lt_of_le L1 ys), Nat.ne_of_lt (Nat.lt_of_lt_of_le L2 ys), Lib.hid (HY.out.al _), Lib.hid (heap_alloc_new _ _), Lib.hid (keep_al (keep_ext (keep_dr R1.out) y) _), Lib.hid (keep_al (keep_ext (keep_dr R2.out) y) _)⟩
          case rest =>
          obtain ⟨b3, hs, he, g3, z13, z23, I3, R3, R1, R2⟩ := hcut
          subst hs he
          obtain ⟨c0, c1⟩ := EC.out _ I3.out
          obtain ⟨f0, f1⟩ := EF.out _ I3.out
          have y0g := (Array.getElem?_eq_some_iff.1 I3.out.row).1
          go_wp2_with fail
          have n0 := Nat.ne_of_lt y0g
          have L1 := (Array.getElem?_eq_some_iff.1 R1.out).1
          have L2 := (Array.getElem?_eq_some_iff.1 R2.out).1
          have L3 := (Array.getElem?_eq_some_iff.1 R3.out).1
          go_cut [16, 17] (fun sp se wx => ∃ b : Nat, sp = .pointer (some ⟨b, 0, none⟩) ∧ se = .int .i64 e2 ∧ w.heap.size + 1 + 1 < b ∧ b1 ≠ b ∧ b2 ≠ b ∧ b3 ≠ b ∧ Hid (LI B S w wx) ∧ Hid (wx.heap[b]? = some (.cells #[.int .i64 n2, .int .i64 d2] 23)) ∧ Hid (wx.heap[b1]? = some (.cells #[.int .i64 n1, .int .i64 d1] 23)) ∧ Hid (wx.heap[b2]? = some (.cells #[.int .i64 n1, .int .i64 d1] 23)) ∧ Hid (wx.heap[b3]? = some (.cells #[.int .i64 n2, .int .i64 d2] 23)))
          case first =>
            go_region_held3 (fun w' => w'.cell? ⟨w.heap.size + 1 + 1, i * 2, none⟩ = some (.int .i64 a) ∧ w'.cell? ⟨w.heap.size + 1 + 1, i * 2 + 1, none⟩ = some (.int .i64 b) ∧ w'.cell? ⟨w.heap.size + 1 + 1, k * 2, none⟩ = some (.int .i64 c) ∧ w'.cell? ⟨w.heap.size + 1 + 1, k * 2 + 1, none⟩ = some (.int .i64 d))
              (first | (go_keep; done) | ((repeat' apply And.intro) <;> (first | assumption | (rw [cell_al _ _ _ _ yg]; assumption) | (rw [cell_al _ _ _ _ y0g]; assumption) | (rw [cell_g _ _ _ _ _ _ n0]; assumption) | (rw [cell_g _ _ _ _ _ _ n1y]; assumption) | (rw [cell_g _ _ _ _ _ _ n1y, cell_al _ _ _ _ yg]; assumption))))
              (first | (go_at_call 8; (with_reducible refine Calls.mono (H2.out _) ?_); rintro e _ ⟨rfl, ⟨y, rfl⟩⟩; have ys := y.size; (try simp at ys); have yg : w.heap.size + 1 + 1 < y.val.heap.size := (by omega); have n1y := Nat.ne_of_lt yg; (first | (have HY := Lib.hid (I3.out.dr.ext y)) | (have HY := Lib.hid ((I3.out.dr.al _).ext y)) | (have HY := Lib.hid (I3.out.ext y)) | (have HY := Lib.hid ((I3.out.al _).ext y))); obtain ⟨t0, t1⟩ := EC.out _ HY.out; obtain ⟨t2, t3⟩ := EF.out _ HY.out))
            all_goals
              go_wp2_with fail
              go_meet
              case rel => first | exact ⟨_, rfl, rfl, y0g, Nat.ne_of_lt L1, Nat.ne_of_lt L2, Nat.ne_of_lt L3, Lib.hid (HY.out.set y0g _ _), Lib.hid (set_pair (keep_ext (keep_new _ _) y) _ _), Lib.hid (keep_set (keep_ext (keep_dal R1.out _) y) (Nat.ne_of_lt L1) _ _), Lib.hid (keep_set (keep_ext (keep_dal R2.out _) y) (Nat.ne_of_lt L2) _ _), Lib.hid (keep_set (keep_ext (keep_dal R3.out _) y) (Nat.ne_of_lt L3) _ _)⟩ | exact ⟨_, rfl, rfl, yg, Nat.ne_of_lt (Nat.lt_of_lt_of_le L1 ys), Nat.ne_of_lt (Nat.lt_of_lt_of_le L2 ys), Nat.ne_of_lt (Nat.lt_of_lt_of_le L3 ys), Lib.hid (HY.out.al _), Lib.hid (heap_alloc_new _ _), Lib.hid (keep_al (keep_ext (keep_dr R1.out) y) _), Lib.hid (keep_al (keep_ext (keep_dr R2.out) y) _), Lib.hid (keep_al (keep_ext (keep_dr R3.out) y) _)⟩
          case rest =>
          obtain ⟨b4, hs, he, g4, z14, z24, z34, I4, R4, R1, R2, R3⟩ := hcut
          subst hs he
          obtain ⟨c0, c1⟩ := EC.out _ I4.out
          obtain ⟨f0, f1⟩ := EF.out _ I4.out
          have y0g := (Array.getElem?_eq_some_iff.1 I4.out.row).1
          obtain ⟨_, _, _, u1a, u1b⟩ := two_z R1.out
          obtain ⟨_, _, _, u2a, u2b⟩ := two_z R2.out
          obtain ⟨_, _, _, u3a, u3b⟩ := two_z R3.out
          obtain ⟨_, _, _, u4a, u4b⟩ := two_z R4.out
          go_wp2_with fail
          refine wp_region_ext (by kernel_rfl) (by kernel_rfl) ?_
          repeat (go_big_quiet_step (first | (go_at_call 18; with_reducible exact Cls.call (G3.out _)) | (go_at_call 20; with_reducible exact Cls.call (H3.out _))))
          refine wpQuiet_nil ?_
          rintro _ ⟨z, rfl⟩
          have zs := z.size
          (try simp at zs)
          go_wp2_with fail
          go_roundw
          case rel => exact ⟨k + 1, by omega, by go_num, Lib.hid (I4.out.ext z)⟩
          case measure => first | (simp [intOf]; done) | (simp [intOf]; omega)
        · obtain rfl : k = 4 := by omega
          go_wp2_with fail
          go_roundw
          case rel => exact ⟨i + 1, by omega, by go_num, hJ⟩
          case measure => first | (simp [intOf]; done) | (simp [intOf]; omega)
    · obtain rfl : i = 4 := (by omega)
      have HB := Lib.hid hI.out.bel
      go_wp2_with fail
      go_ret
      exact ⟨rfl, Cls.of HB.out⟩
end Go.Proofs.Ythlaejodajdioaa
