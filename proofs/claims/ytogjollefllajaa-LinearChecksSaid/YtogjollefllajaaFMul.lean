/-
  The reference's numbers: products.
-/
import Derived.Test.YtogjollefllajaaFRef3
import Derived.Laws.MakeOwn
import Derived.Laws.Rows
set_option linter.unusedVariables false
namespace Go.Proofs.Ytogjollefllajaa
open Go Go.RowKit Go.Deep
theorem zerosU (N : Nat) : madeCells (Value.int .u64 0).cells (N * 1) = (flatU (List.replicate N 0)).toArray := by
  rw [Nat.mul_one]
  apply Array.ext
  · simp [size_madeCells, flatU_length]
  · intro i h1 h2
    have e : (Value.int .u64 0).cells = #[.int .u64 0] := rfl
    simp [madeCells, flatU, e, Nat.mod_one]
/-- A block that holds these numbers. -/
def Blk (w : World) (g : Nat) (l : List Nat) : Prop := w.heap[g]? = some (.cells (flatU l).toArray 82 (0, 0))
theorem Blk.lt {w : World} {g : Nat} {l : List Nat} (h : Blk w g l) : g < w.heap.size := (Array.getElem?_eq_some_iff.1 h).1
theorem Blk.cell {w : World} {g : Nat} {l : List Nat} (h : Blk w g l) {i : Nat} (hi : i < l.length) : w.cell? ⟨g, i, none⟩ = some (.int .u64 ((l.getD i 0 : Nat) : Int)) := by
  rw [cell_of_row _ _ _ _ _ _ h]
  simp [flatU, List.getD, hi]
theorem Blk.frozen {w : World} {g : Nat} {l : List Nat} (h : Blk w g l) (i : Nat) : w.frozen? ⟨g, i, none⟩ = false := by
  simp [World.frozen?, show w.heap[g]? = _ from h]
theorem Blk.later {w w' : World} {g : Nat} {l : List Nat} (h : Blk w g l) (hb : Below w.heap.size w w') : Blk w' g l := (hb.block g h.lt).trans h
theorem Blk.set {w : World} {g : Nat} {l : List Nat} (h : Blk w g l) (i x : Nat) : Blk (w.setCell ⟨g, i, none⟩ (.int .u64 (x : Int))) g (l.set i x) := by
  have := heap_setCell_same w g i _ _ (.int .u64 (x : Int)) h
  unfold Blk
  rw [this]
  simp [flatU, List.map_set]
theorem Blk.uat {w : World} {g : Nat} {l : List Nat} (h : Blk w g l) (hm : l.length ≤ maxLen) : UAt w ⟨some ⟨g, 0, none⟩, l.length, l.length⟩ l := UAt.lit h rfl hm
set_option maxHeartbeats 8000000 in
theorem mul_calls (a : Option Addr) (n c : Nat) (a' : Option Addr) (n' c' : Nat) (x y : Nat) (w : World) (h : NumAt w ⟨a, n, c⟩ x) (h' : NumAt w ⟨a', n', c'⟩ y) (hn : n ≤ 500) (hn' : n' ≤ 500) :
    Calls Try.prog 57 #[.slice a n c, .slice a' n' c'] w fun e w' => ∃ s : Sl, e = .returned (.slice s.a s.len s.cap) ∧ NumAt w' s (x * y) ∧ Cls w w' := by
  have hle : n ≤ c := h.2.1
  have hmax : c ≤ maxLen := h.2.2.1
  have hle' : n' ≤ c' := h'.2.1
  have hmax' : c' ≤ maxLen := h'.2.2.1
  unfold maxLen at hmax hmax'
  have HL : Hid (n = (digs x).length) := Lib.hid h.1
  have HL' : Hid (n' = (digs y).length) := Lib.hid h'.1
  have H := Lib.hid h.2.2.2
  have H' := Lib.hid h'.2.2.2
  clear h h'
  obtain ⟨i0, hi, hz0, hz1, hz2⟩ := info_parts infoU
  have hmk : ∀ W, Sem.run Try.prog (Instr.makeSlice 60 (.int .i64 ((n : Int) + (n' : Int) + 1)) (.int .i64 ((n : Int) + (n' : Int) + 1))) W = .ok (.slice (some ⟨W.heap.size, 0, none⟩) (n + n' + 1) (n + n' + 1)) (W.alloc (.cells (flatU (List.replicate (n + n' + 1) 0)).toArray 82)) := fun W => by
    have := run_make (P := Try.prog) W 60 82 i0 _ Try.underlying60 hi hz0 .i64 .i64 ((n : Int) + (n' : Int) + 1) ((n : Int) + (n' : Int) + 1) (by omega) (by omega) (by rw [hz2]; omega) (by omega)
    rw [hz1, show ((n : Int) + (n' : Int) + 1).toNat = n + n' + 1 by omega, zerosU] at this
    exact this
  go_enter Try.func57, Try.ntmps57
  go_wp2_with fail
  go_loopw [6] (fun i wr => ∃ (k : Nat) (L : List Nat), k ≤ n ∧ i = .int .i64 k ∧ Hid (Blk wr w.heap.size L) ∧ Hid (L.length = n + n' + 1 ∧ Dg L ∧ (∀ j, k + (digs y).length ≤ j → L.getD j 0 = 0) ∧ vl L = vl ((digs x).take k) * vl (digs y)) ∧ Hid (Below w.heap.size w wr)) (fun i _ => 1000 - (intOf i).toNat)
  case atStart => exact ⟨0, List.replicate (n + n' + 1) 0, by omega, rfl, Lib.hid (heap_alloc_new w _), Lib.hid ⟨by simp, fun d hd => by rw [List.eq_of_mem_replicate hd]; omega, fun j _ => by simp [List.getD, List.getElem?_replicate]; split <;> rfl, by rw [vl_zeros]; simp [vl]⟩, Lib.hid ((Below.refl _ _).alloc (Nat.le_refl _) _)⟩
  case round =>
    obtain ⟨k, L, hk, rfl, hblk, hL, hbel⟩ := hrel
    by_cases hlt : k < n
    · obtain ⟨b, off, ea, hb, hcell⟩ := H.out.resolve_left (by show ¬ n = 0; omega)
      have ea1 : a = some ⟨b, off, none⟩ := ea
      subst ea1
      clear ea
      have q := hcell k hlt
      have hub := (dg_digs x).getD k
      have HM0 : Hid (MulI (digs y) (n + n' + 1) (vl L) k ((digs x).getD k 0) 0 L 0) := Lib.hid (MulI.start hL.out.1 hL.out.2.1 hL.out.2.2.1 rfl)
      have HV : Hid (vl L + 1000000000 ^ k * ((digs x).getD k 0 * vl (digs y)) = vl ((digs x).take (k + 1)) * vl (digs y)) := Lib.hid (by rw [hL.out.2.2.2]; exact mul_row _ _ _)
      clear hcell hL
      generalize (digs x).getD k 0 = u at *
      generalize vl L = V at *
      go_wp2_with fail
      go_loopw [7, 8] (fun ca s8 wr => ∃ (j cc : Nat) (L' : List Nat), j ≤ n' + 1 ∧ s8 = .int .i64 j ∧ ca = .int .u64 cc ∧ Hid (MulI (digs y) (n + n' + 1) V k u j L' cc) ∧ Hid (Blk wr w.heap.size L') ∧ Hid (Below w.heap.size w wr)) (fun _ s8 _ => 1000 - (intOf s8).toNat)
      case atStart => exact ⟨0, 0, L, by omega, rfl, rfl, HM0, hblk, hbel⟩
      case round =>
        obtain ⟨j, cc, L', hj, rfl, rfl, hM, hblk', hbel'⟩ := hrel
        clear hblk hbel HM0
        have hg := hblk'.out.lt
        have hsz := hbel'.out.size
        have hcb := hM.out.cB
        by_cases hgo : j < n' ∨ 0 < cc
        · have hj2 : j ≤ n' := by
            rcases hgo with h0 | h0
            · omega
            · by_cases hj3 : j = n' + 1
              · have := hM.out.done (by rw [← HL'.out]; exact hj3); omega
              · omega
          have MS := Lib.hid (hM.out.step (dg_digs y) hub (by rw [← HL'.out]; omega) (by rw [← HL'.out]; exact hgo))
          obtain ⟨s1, s2⟩ := hM.out.sum (dg_digs y) hub
          have z0 := hblk'.out.cell (i := k + j) (by rw [hM.out.len]; omega)
          have z1 := hblk'.out.frozen (k + j)
          have hzb := hM.out.dg.getD (k + j)
          have hvb := (dg_digs y).getD j
          have HS : Hid (∀ W : World, Blk W w.heap.size L' → Blk (W.setCell ⟨w.heap.size, k + j, none⟩ (.int .u64 (((cc : Int) + ((L'.getD (k + j) 0 : Nat) : Int) + (u : Int) * (((digs y).getD j 0 : Nat) : Int)) % 1000000000))) w.heap.size (L'.set (k + j) ((cc + L'.getD (k + j) 0 + u * (digs y).getD j 0) % 1000000000))) := Lib.hid (fun W h => by
            have := h.set (k + j) ((cc + L'.getD (k + j) 0 + u * (digs y).getD j 0) % 1000000000)
            simpa using this)
          have Y0 : Hid (¬ j < n' → (digs y).getD j 0 = 0) := Lib.hid (getD_end HL'.out)
          have CY : Hid (j < n' → ∃ b off, a' = some ⟨b, off, none⟩ ∧ b < w.heap.size ∧ wr.cell? ⟨b, off + j, none⟩ = some (.int .u64 ((digs y).getD j 0))) := Lib.hid fun hlt => by
            obtain ⟨b, off, ea, hb, hc⟩ := H'.out.resolve_left (by show ¬ n' = 0; omega)
            exact ⟨b, off, ea, hb, (hbel'.out.cell (p := ⟨b, _, none⟩) hb).trans (hc j hlt)⟩
          have r := (hbel'.out.cell (p := ⟨b, off + k, none⟩) hb).trans q
          have hbq : b < wr.heap.size := by omega
          have e1 : ((k : Int) + (j : Int)).toNat = k + j := by omega
          clear H H' q hM
          generalize L'.getD (k + j) 0 = z at *
          by_cases hlt' : j < n'
          · obtain ⟨b', off', ea', hb', r'⟩ := CY.out hlt'
            subst ea'
            have hbq' : b' < wr.heap.size := by omega
            clear CY Y0
            generalize (digs y).getD j 0 = v at *
            have hp0 : 0 ≤ (u : Int) * (v : Int) := by rw [← Int.natCast_mul]; omega
            have hp1 : (u : Int) * (v : Int) ≤ 999999998000000001 := by rw [← Int.natCast_mul]; omega
            have S1 := Lib.hid s1
            have S2 := Lib.hid s2
            clear s1 s2 hgo
            have e2 : IntKind.u64.wrap ((u : Int) * (v : Int)) = (u : Int) * (v : Int) := by rw [IntKind.wrap_u64]; omega
            have e3 : IntKind.u64.wrap ((cc : Int) + (z : Int) + (u : Int) * (v : Int)) = (cc : Int) + (z : Int) + (u : Int) * (v : Int) := by rw [IntKind.wrap_u64]; omega
            go_wp2_with fail
            refine wp_region_ext (by kernel_rfl) (by kernel_rfl) ?_
            repeat (go_big_quiet_step (fail))
            refine wpQuiet_nil ?_
            rintro _ ⟨y1, rfl⟩
            have ys := y1.size
            have e4 : IntKind.u64.wrap (((cc : Int) + (z : Int) + (u : Int) * (v : Int)) / 1000000000) = ((cc : Int) + (z : Int) + (u : Int) * (v : Int)) / 1000000000 := by rw [IntKind.wrap_u64]; omega
            have hgy : w.heap.size < y1.val.heap.size := by omega
            have HB9 := Lib.hid (HS.out y1.val (hblk'.out.later y1.below))
            have HB8 : Hid (Below w.heap.size w y1.val) := Lib.hid (y1.on hbel'.out hsz)
            clear e2 e3 e4 r r'
            go_wp2_with fail
            go_roundw
            case rel => exact ⟨j + 1, (cc + z + u * v) / 1000000000, L'.set (k + j) ((cc + z + u * v) % 1000000000), by omega, by go_num, by simp, MS, HB9, Lib.hid (HB8.out.setCell (by simp) _)⟩
            case measure => first | (simp [intOf]; done) | (simp [intOf]; omega)
          · have hcp : 0 < cc := hgo.resolve_left hlt'
            have hcp2 : decide (0 < cc) = true := decide_eq_true hcp
            have y00 := Y0.out hlt'
            rw [y00] at HS MS
            rw [Int.natCast_zero, Int.mul_zero, Int.add_zero] at HS
            rw [Nat.mul_zero, Nat.add_zero] at HS MS
            have HB9 := Lib.hid (HS.out wr hblk'.out)
            clear hgo y00 Y0 CY s1 s2 hvb
            go_wp2_with fail
            go_roundw
            case rel => exact ⟨j + 1, (cc + z) / 1000000000, L'.set (k + j) ((cc + z) % 1000000000), by omega, by go_num, by simp, MS, HB9, Lib.hid (hbel'.out.setCell (by simp) _)⟩
            case measure => first | (simp [intOf]; done) | (simp [intOf]; omega)
        · have hc0 : cc = 0 := by omega
          subst hc0
          have hjn : ¬ j < n' := by omega
          have ME := Lib.hid (hM.out.end (by rw [← HL'.out]; exact hjn) (by omega))
          clear hgo hM
          go_wp2_with fail
          go_roundw
          case rel => exact ⟨k + 1, L', by omega, by go_num, hblk', Lib.hid ⟨ME.out.1, ME.out.2.1, ME.out.2.2.1, by rw [ME.out.2.2.2]; exact HV.out⟩, hbel'⟩
          case measure => first | (simp [intOf]; done) | (simp [intOf]; omega)
    · obtain rfl : k = n := by omega
      have HLN := hL.out.1
      have HAT : UAt wr ⟨some ⟨w.heap.size, 0, none⟩, k + n' + 1, k + n' + 1⟩ L := by
        have := hblk.out.uat (by rw [HLN]; unfold maxLen; omega)
        rwa [HLN] at this
      have T1 := Lib.hid (trim_calls _ _ _ L wr HAT hL.out.2.1)
      have T2 := Lib.hid (trimmed HAT hL.out.2.1)
      have hv : vl L = x * y := by rw [hL.out.2.2.2, vl_take_all _ _ (by rw [HL.out]; exact Nat.le_refl _), vl_digs, vl_digs]
      rw [hv] at T1 T2
      clear HAT hv HLN H H' hL
      go_wp2_with (go_at_call 84; (with_reducible refine T1.out.mono ?_); rintro e _ ⟨rfl, rfl⟩)
      go_ret
      exact ⟨⟨_, _, _⟩, rfl, T2.out, Cls.of hbel.out⟩
end Go.Proofs.Ytogjollefllajaa
