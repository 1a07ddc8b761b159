/-
  The reference's numbers: products. What the long division of numbers by doubling reckons; Euclid's rounds. The reference's numbers: quotients and rests, greatest common divisors. The reference's numbers: greatest common divisors; which fractions are valid.
-/
import Derived.Test.YthbdkhmgopahbaaJ02
import Derived.Laws.MakeOwn
import Derived.Laws.Rows
import Derived.Test.YthbdkhmgopahbaaJ01
set_option linter.unusedVariables false
namespace Go.Proofs.Ythbdkhmgopahbaa
open Go Go.RowKit Go.Deep
theorem zerosU (N : Nat) : madeCells (Value.int .u64 0).cells (N * 1) = (flatU (List.replicate N 0)).toArray := by
  rw [Nat.mul_one]
  apply Array.ext
  · simp [size_madeCells, flatU_length]
  · intro i h1 h2
    have e : (Value.int .u64 0).cells = #[.int .u64 0] := rfl
    simp [madeCells, flatU, e, Nat.mod_one]
/-- A block that holds these numbers. -/
def Blk (w : World) (g : Nat) (l : List Nat) : Prop := w.heap[g]? = some (.cells (flatU l).toArray 91 (0, 0))
theorem Blk.lt {w : World} {g : Nat} {l : List Nat} (h : Blk w g l) : g < w.heap.size := (Array.getElem?_eq_some_iff.1 h).1
theorem Blk.cell {w : World} {g : Nat} {l : List Nat} (h : Blk w g l) {i : Nat} (hi : i < l.length) : w.cell? ⟨g, i, none⟩ = some (.int .u64 ((l.getD i 0 : Nat) : Int)) := by
  rw [cell_of_row _ _ _ _ _ _ h]
  simp [flatU, List.getD, hi]
theorem Blk.frozen {w : World} {g : Nat} {l : List Nat} (h : Blk w g l) (i : Nat) : w.frozen? ⟨g, i, none⟩ = false := by
  simp [World.frozen?, show w.heap[g]? = _ from h]
theorem Blk.later {w w' : World} {g : Nat} {l : List Nat} (h : Blk w g l) (hb : Below w.heap.size w w') : Blk w' g l := (hb.block g h.lt).trans h
theorem Blk.set {w : World} {g : Nat} {l : List Nat} (h : Blk w g l) (i x : Nat) : Blk (w.setCell ⟨g, i, none⟩ (.int .u64 (x : Int))) g (l.set i x) := by
  have := heap_setCell_same w g i _ _ (.int .u64 (x : Int)) h
  unfold Blk
  rw [this]
  simp [flatU, List.map_set]
theorem Blk.uat {w : World} {g : Nat} {l : List Nat} (h : Blk w g l) (hm : l.length ≤ maxLen) : UAt w ⟨some ⟨g, 0, none⟩, l.length, l.length⟩ l := UAt.lit h rfl hm
set_option maxHeartbeats 8000000 in
theorem mul_calls (a : Option Addr) (n c : Nat) (a' : Option Addr) (n' c' : Nat) (x y : Nat) (w : World) (h : NumAt w ⟨a, n, c⟩ x) (h' : NumAt w ⟨a', n', c'⟩ y) (hn : n ≤ 500) (hn' : n' ≤ 500) :
    Calls Try.prog 69 #[.slice a n c, .slice a' n' c'] w fun e w' => ∃ s : Sl, e = .returned (.slice s.a s.len s.cap) ∧ NumAt w' s (x * y) ∧ Cls w w' := by
  have hle : n ≤ c := h.2.1
  have hmax : c ≤ maxLen := h.2.2.1
  have hle' : n' ≤ c' := h'.2.1
  have hmax' : c' ≤ maxLen := h'.2.2.1
  unfold maxLen at hmax hmax'
  have HL : Hid (n = (digs x).length) := Lib.hid h.1
  have HL' : Hid (n' = (digs y).length) := Lib.hid h'.1
  have H := Lib.hid h.2.2.2
  have H' := Lib.hid h'.2.2.2
  clear h h'
  obtain ⟨i0, hi, hz0, hz1, hz2⟩ := info_parts infoU
  have hmk : ∀ W, Sem.run Try.prog (Instr.makeSlice 65 (.int .i64 ((n : Int) + (n' : Int) + 1)) (.int .i64 ((n : Int) + (n' : Int) + 1))) W = .ok (.slice (some ⟨W.heap.size, 0, none⟩) (n + n' + 1) (n + n' + 1)) (W.alloc (.cells (flatU (List.replicate (n + n' + 1) 0)).toArray 91)) := fun W => by
    have := run_make (P := Try.prog) W 65 91 i0 _ Try.underlying65 hi hz0 .i64 .i64 ((n : Int) + (n' : Int) + 1) ((n : Int) + (n' : Int) + 1) (by omega) (by omega) (by rw [hz2]; omega) (by omega)
    rw [hz1, show ((n : Int) + (n' : Int) + 1).toNat = n + n' + 1 by omega, zerosU] at this
    exact this
  go_enter Try.func69, Try.ntmps69
  go_wp2_with fail
  go_loopw [6] (fun i wr => ∃ (k : Nat) (L : List Nat), k ≤ n ∧ i = .int .i64 k ∧ Hid (Blk wr w.heap.size L) ∧ Hid (L.length = n + n' + 1 ∧ Dg L ∧ (∀ j, k + (digs y).length ≤ j → L.getD j 0 = 0) ∧ vl L = vl ((digs x).take k) * vl (digs y)) ∧ Hid (Below w.heap.size w wr)) (fun i _ => 1000 - (intOf i).toNat)
  case atStart => exact ⟨0, List.replicate (n + n' + 1) 0, by omega, rfl, Lib.hid (heap_alloc_new w _), Lib.hid ⟨by simp, fun d hd => by rw [List.eq_of_mem_replicate hd]; omega, fun j _ => by simp [List.getD, List.getElem?_replicate]; split <;> rfl, by rw [vl_zeros]; simp [vl]⟩, Lib.hid ((Below.refl _ _).alloc (Nat.le_refl _) _)⟩
  case round =>
    obtain ⟨k, L, hk, rfl, hblk, hL, hbel⟩ := hrel
    by_cases hlt : k < n
    · obtain ⟨b, off, ea, hb, hcell⟩ := H.out.resolve_left (by show ¬ n = 0; omega)
      have ea1 : a = some ⟨b, off, none⟩ := ea
      subst ea1
      clear ea
      have q := hcell k hlt
      have hub := (dg_digs x).getD k
      have HM0 : Hid (MulI (digs y) (n + n' + 1) (vl L) k ((digs x).getD k 0) 0 L 0) := Lib.hid (MulI.start hL.out.1 hL.out.2.1 hL.out.2.2.1 rfl)
      have HV : Hid (vl L + 1000000000 ^ k * ((digs x).getD k 0 * vl (digs y)) = vl ((digs x).take (k + 1)) * vl (digs y)) := Lib.hid (by rw [hL.out.2.2.2]; exact mul_row _ _ _)
      clear hcell hL
      generalize (digs x).getD k 0 = u at *
      generalize vl L = V at *
      go_wp2_with fail
      go_loopw [7, 8] (fun ca s8 wr => ∃ (j cc : Nat) (L' : List Nat), j ≤ n' + 1 ∧ s8 = .int .i64 j ∧ ca = .int .u64 cc ∧ Hid (MulI (digs y) (n + n' + 1) V k u j L' cc) ∧ Hid (Blk wr w.heap.size L') ∧ Hid (Below w.heap.size w wr)) (fun _ s8 _ => 1000 - (intOf s8).toNat)
      case atStart => exact ⟨0, 0, L, by omega, rfl, rfl, HM0, hblk, hbel⟩
      case round =>
        obtain ⟨j, cc, L', hj, rfl, rfl, hM, hblk', hbel'⟩ := hrel
        clear hblk hbel HM0
        have hg := hblk'.out.lt
        have hsz := hbel'.out.size
        have hcb := hM.out.cB
        by_cases hgo : j < n' ∨ 0 < cc
        · have hj2 : j ≤ n' := by
            rcases hgo with h0 | h0
            · omega
            · by_cases hj3 : j = n' + 1
              · have := hM.out.done (by rw [← HL'.out]; exact hj3); omega
              · omega
          have MS := Lib.hid (hM.out.step (dg_digs y) hub (by rw [← HL'.out]; omega) (by rw [← HL'.out]; exact hgo))
          obtain ⟨s1, s2⟩ := hM.out.sum (dg_digs y) hub
          have z0 := hblk'.out.cell (i := k + j) (by rw [hM.out.len]; omega)
          have z1 := hblk'.out.frozen (k + j)
          have hzb := hM.out.dg.getD (k + j)
          have hvb := (dg_digs y).getD j
          have HS : Hid (∀ W : World, Blk W w.heap.size L' → Blk (W.setCell ⟨w.heap.size, k + j, none⟩ (.int .u64 (((cc : Int) + ((L'.getD (k + j) 0 : Nat) : Int) + (u : Int) * (((digs y).getD j 0 : Nat) : Int)) % 1000000000))) w.heap.size (L'.set (k + j) ((cc + L'.getD (k + j) 0 + u * (digs y).getD j 0) % 1000000000))) := Lib.hid (fun W h => by
            have := h.set (k + j) ((cc + L'.getD (k + j) 0 + u * (digs y).getD j 0) % 1000000000)
            simpa using this)
          have Y0 : Hid (¬ j < n' → (digs y).getD j 0 = 0) := Lib.hid (getD_end HL'.out)
          have CY : Hid (j < n' → ∃ b off, a' = some ⟨b, off, none⟩ ∧ b < w.heap.size ∧ wr.cell? ⟨b, off + j, none⟩ = some (.int .u64 ((digs y).getD j 0))) := Lib.hid fun hlt => by
            obtain ⟨b, off, ea, hb, hc⟩ := H'.out.resolve_left (by show ¬ n' = 0; omega)
            exact ⟨b, off, ea, hb, (hbel'.out.cell (p := ⟨b, _, none⟩) hb).trans (hc j hlt)⟩
          have r := (hbel'.out.cell (p := ⟨b, off + k, none⟩) hb).trans q
          have hbq : b < wr.heap.size := by omega
          have e1 : ((k : Int) + (j : Int)).toNat = k + j := by omega
          clear H H' q hM
          generalize L'.getD (k + j) 0 = z at *
          by_cases hlt' : j < n'
          · obtain ⟨b', off', ea', hb', r'⟩ := CY.out hlt'
            subst ea'
            have hbq' : b' < wr.heap.size := by omega
            clear CY Y0
            generalize (digs y).getD j 0 = v at *
            have hp0 : 0 ≤ (u : Int) * (v : Int) := by rw [← Int.natCast_mul]; omega
            have hp1 : (u : Int) * (v : Int) ≤ 999999998000000001 := by rw [← Int.natCast_mul]; omega
            have S1 := Lib.hid s1
            have S2 := Lib.hid s2
            clear s1 s2 hgo
            have e2 : IntKind.u64.wrap ((u : Int) * (v : Int)) = (u : Int) * (v : Int) := by rw [IntKind.wrap_u64]; omega
            have e3 : IntKind.u64.wrap ((cc : Int) + (z : Int) + (u : Int) * (v : Int)) = (cc : Int) + (z : Int) + (u : Int) * (v : Int) := by rw [IntKind.wrap_u64]; omega
            go_wp2_with fail
            refine wp_region_ext (by kernel_rfl) (by kernel_rfl) ?_
            repeat (go_big_quiet_step (fail))
            refine wpQuiet_nil ?_
            rintro _ ⟨y1, rfl⟩
            have ys := y1.size
            have e4 : IntKind.u64.wrap (((cc : Int) + (z : Int) + (u : Int) * (v : Int)) / 1000000000) = ((cc : Int) + (z : Int) + (u : Int) * (v : Int)) / 1000000000 := by rw [IntKind.wrap_u64]; omega
            have hgy : w.heap.size < y1.val.heap.size := by omega
            have HB9 := Lib.hid (HS.out y1.val (hblk'.out.later y1.below))
            have HB8 : Hid (Below w.heap.size w y1.val) := Lib.hid (y1.on hbel'.out hsz)
            clear e2 e3 e4 r r'
            go_wp2_with fail
            go_roundw
            case rel => exact ⟨j + 1, (cc + z + u * v) / 1000000000, L'.set (k + j) ((cc + z + u * v) % 1000000000), by omega, by go_num, by simp, MS, HB9, Lib.hid (HB8.out.setCell (by simp) _)⟩
            case measure => first | (simp [intOf]; done) | (simp [intOf]; omega)
          · have hcp : 0 < cc := hgo.resolve_left hlt'
            have hcp2 : decide (0 < cc) = true := decide_eq_true hcp
            have y00 := Y0.out hlt'
            rw [y00] at HS MS
            rw [Int.natCast_zero, Int.mul_zero, Int.add_zero] at HS
            rw [Nat.mul_zero, Nat.add_zero] at HS MS
            have HB9 := Lib.hid (HS.out wr hblk'.out)
            clear hgo y00 Y0 CY s1 s2 hvb
            go_wp2_with fail
            go_roundw
            case rel => exact ⟨j + 1, (cc + z) / 1000000000, L'.set (k + j) ((cc + z) % 1000000000), by omega, by go_num, by simp, MS, HB9, Lib.hid (hbel'.out.setCell (by simp) _)⟩
            case measure => first | (simp [intOf]; done) | (simp [intOf]; omega)
        · have hc0 : cc = 0 := by omega
          subst hc0
          have hjn : ¬ j < n' := by omega
          have ME := Lib.hid (hM.out.end (by rw [← HL'.out]; exact hjn) (by omega))
          clear hgo hM
          go_wp2_with fail
          go_roundw
          case rel => exact ⟨k + 1, L', by omega, by go_num, hblk', Lib.hid ⟨ME.out.1, ME.out.2.1, ME.out.2.2.1, by rw [ME.out.2.2.2]; exact HV.out⟩, hbel'⟩
          case measure => first | (simp [intOf]; done) | (simp [intOf]; omega)
    · obtain rfl : k = n := by omega
      have HLN := hL.out.1
      have HAT : UAt wr ⟨some ⟨w.heap.size, 0, none⟩, k + n' + 1, k + n' + 1⟩ L := by
        have := hblk.out.uat (by rw [HLN]; unfold maxLen; omega)
        rwa [HLN] at this
      have T1 := Lib.hid (trim_calls _ _ _ L wr HAT hL.out.2.1)
      have T2 := Lib.hid (trimmed HAT hL.out.2.1)
      have hv : vl L = x * y := by rw [hL.out.2.2.2, vl_take_all _ _ (by rw [HL.out]; exact Nat.le_refl _), vl_digs, vl_digs]
      rw [hv] at T1 T2
      clear HAT hv HLN H H' hL
      go_wp2_with (go_at_call 99; (with_reducible refine T1.out.mono ?_); rintro e _ ⟨rfl, rfl⟩)
      go_ret
      exact ⟨⟨_, _, _⟩, rfl, T2.out, Cls.of hbel.out⟩
end Go.Proofs.Ythbdkhmgopahbaa
namespace Go.Proofs.Ythbdkhmgopahbaa
theorem two_pow_gt (k : Nat) : k < 2 ^ k := Nat.lt_two_pow_self
theorem le_of_pow_mul {y k x : Nat} (hy : 0 < y) (h : y * 2 ^ k ≤ x) : k < x := by
  have h1 := two_pow_gt k
  have h2 : 1 * 2 ^ k ≤ y * 2 ^ k := Nat.mul_le_mul_right _ hy
  omega
theorem pow9_le (n : Nat) : 1000000000 ^ n ≤ 2 ^ (30 * n) := by
  rw [Nat.pow_mul]
  exact Nat.pow_le_pow_left (by decide) n
theorem len_bound {y k x n : Nat} (hy : 0 < y) (h : y * 2 ^ k ≤ x) (hx : (digs x).length ≤ n) : k < 30 * n := by
  have h1 := lt_pow_len x
  have h2 : 1000000000 ^ (digs x).length ≤ 1000000000 ^ n := Nat.pow_le_pow_right (by omega) hx
  have h3 := pow9_le n
  have h4 : 1 * 2 ^ k ≤ y * 2 ^ k := Nat.mul_le_mul_right _ hy
  rcases Nat.lt_or_ge k (30 * n) with h5 | h5
  · exact h5
  · have := Nat.pow_le_pow_right (n := 2) (by omega) h5
    omega
theorem digs_mono {a b : Nat} (h : a ≤ b) : (digs a).length ≤ (digs b).length := by
  rcases Nat.lt_or_ge (digs b).length (digs a).length with h' | h'
  · have := lt_of_len_lt h'; omega
  · exact h'
theorem digs_double (a : Nat) : (digs (a + a)).length ≤ (digs a).length + 1 := by
  refine digs_len_le ?_
  have := lt_pow_len a
  rw [Nat.pow_succ]; omega
theorem pow_step (y k : Nat) : y * 2 ^ (k + 1) = y * 2 ^ k + y * 2 ^ k := by rw [Nat.pow_succ, ← Nat.mul_assoc]; omega
/-- The state of the second loop. -/
structure DivI (x y j q r : Nat) : Prop where
  eq : x = q * (y * 2 ^ j) + r
  lt : r < y * 2 ^ j
theorem DivI.start {x y k : Nat} (h : x < y * 2 ^ k) : DivI x y k 0 x := ⟨by omega, h⟩
theorem DivI.no {x y j q r : Nat} (h : DivI x y (j + 1) q r) (hr : r < y * 2 ^ j) : DivI x y j (q + q) r := by
  obtain ⟨h1, h2⟩ := h
  rw [pow_step] at h1
  refine ⟨?_, hr⟩
  rw [Nat.mul_add] at h1
  rw [Nat.add_mul]; exact h1
theorem DivI.yes {x y j q r : Nat} (h : DivI x y (j + 1) q r) (hr : y * 2 ^ j ≤ r) : DivI x y j (q + q + 1) (r - y * 2 ^ j) := by
  obtain ⟨h1, h2⟩ := h
  rw [pow_step] at h1 h2
  refine ⟨?_, by omega⟩
  rw [Nat.mul_add] at h1
  rw [Nat.add_mul, Nat.add_mul, Nat.one_mul]; omega
theorem DivI.q_le {x y j q r : Nat} (h : DivI x y j q r) (hy : 0 < y) : q ≤ x := by
  have h1 : 0 < y * 2 ^ j := Nat.mul_pos hy (Nat.two_pow_pos _)
  have h2 : q * 1 ≤ q * (y * 2 ^ j) := Nat.mul_le_mul_left _ h1
  have := h.eq
  omega
theorem DivI.r_le {x y j q r : Nat} (h : DivI x y j q r) : r ≤ x := by have := h.eq; omega
theorem DivI.qq_le {x y j q r : Nat} (h : DivI x y (j + 1) q r) (hy : 0 < y) : q + q ≤ x := by
  have h1 : 0 < y * 2 ^ j := Nat.mul_pos hy (Nat.two_pow_pos _)
  have h2 : q * 2 ≤ q * (y * 2 ^ (j + 1)) := Nat.mul_le_mul_left _ (by rw [pow_step]; omega)
  have := h.eq
  omega
theorem DivI.end {x y q r : Nat} (h : DivI x y 0 q r) (hy : 0 < y) : q = x / y ∧ r = x % y := by
  obtain ⟨h1, h2⟩ := h
  simp only [Nat.pow_zero, Nat.mul_one] at h1 h2
  subst h1
  rw [Nat.mul_comm, Nat.mul_add_div hy, Nat.mul_add_mod, Nat.div_eq_of_lt h2, Nat.mod_eq_of_lt h2]
  simp
theorem gcd_step (a b : Nat) (_ : 0 < b) : Nat.gcd b (a % b) = Nat.gcd a b := by
  rw [Nat.gcd_comm a b, Nat.gcd_rec b a, Nat.gcd_comm]
end Go.Proofs.Ythbdkhmgopahbaa
set_option linter.unusedVariables false
namespace Go.Proofs.Ythbdkhmgopahbaa
open Go Go.RowKit Go.Deep
theorem UAt.grown {w w' : World} {s : Sl} {l : List Nat} {row : Option Nat} (h : UAt w s l) (hg : w.grownBy w' row) (hr : ∀ b off, s.a = some ⟨b, off, none⟩ → b < w.heap.size → row ≠ some b) : UAt w' s l := by
  obtain ⟨h1, h2, h3, h4⟩ := h
  refine ⟨h1, h2, h3, h4.imp id ?_⟩
  rintro ⟨b, off, ha, hlt, hc⟩
  exact ⟨b, off, ha, Nat.lt_of_lt_of_le hlt hg.size, fun i hi => by rw [World.cell?_of_block (w := w) (hg.block b hlt (fun e => hr b off ha hlt e.symm))]; exact hc i hi⟩
theorem own_slLen {w : World} {base size n : Nat} {e : TypeId} {v : Value} {xs : List Value} (h : w.ownsRow base e size v n xs) : slLen v = n := by
  rcases h.2 with ⟨rfl, h0⟩ | ⟨g, cap, cur, rfl, _⟩
  · exact h0.symm
  · rfl
theorem infoN : (Try.prog.info? 65).map (fun i => (i.zero, i.size, i.bytes)) = some (some (.slice none 0 0), 1, 24) := by kernel_rfl
def slV (s : Sl) : Value := .slice s.a s.len s.cap
def pwL (P : Nat → Sl) (k : Nat) : List Value := (List.range k).map fun i => slV (P i)
theorem pwL_succ (P : Nat → Sl) (k : Nat) : pwL P (k + 1) = pwL P k ++ [slV (P k)] := by simp [pwL, List.range_succ]
theorem pwL_length (P : Nat → Sl) (k : Nat) : (pwL P k).length = k := by simp [pwL]
def setP (P : Nat → Sl) (k : Nat) (s : Sl) : Nat → Sl := fun i => if i = k then s else P i
theorem pwL_set (P : Nat → Sl) (k : Nat) (s : Sl) {n : Nat} (h : n ≤ k) : pwL (setP P k s) n = pwL P n := by
  unfold pwL
  apply List.map_congr_left
  intro i hi
  have := List.mem_range.1 hi
  simp [setP, show ¬ i = k by omega]
/-- The powers: k of them are gathered, the k-th is at hand. -/
structure Pw (w wr : World) (y k : Nat) (P : Nat → Sl) (v : Value) : Prop where
  own : wr.ownsRow w.heap.size 65 1 v k (pwL P k)
  nums : ∀ i, i ≤ k → NumAt wr (P i) (y * 2 ^ i)
  sep : ∀ i, i ≤ k → ∀ b off, (P i).a = some ⟨b, off, none⟩ → v.ownBlock ≠ some b
  bel : Below w.heap.size w wr
theorem Pw.later {w wr wr' : World} {y k : Nat} {P : Nat → Sl} {v : Value} (h : Pw w wr y k P v) (hb : Below wr.heap.size wr wr') : Pw w wr' y k P v :=
  ⟨own_later' h.own hb, fun i hi => (h.nums i hi).later hb, h.sep, h.bel.trans (hb.mono h.bel.size)⟩
theorem Pw.start {w : World} {y : Nat} {s : Sl} (h : NumAt w s y) : Pw w w y 0 (fun _ => s) (.slice none 0 0) :=
  ⟨World.ownsRow_nil _ _ _ 1, fun i hi => by
    obtain rfl : i = 0 := by omega
    rw [Nat.pow_zero, Nat.mul_one]; exact h, fun i hi b off ha hv => (by cases hv), Below.refl _ _⟩
theorem NumAt.blk {w : World} {s : Sl} {n : Nat} (h : NumAt w s n) (hn : 0 < n) {b off : Nat} (ha : s.a = some ⟨b, off, none⟩) : b < w.heap.size := by
  rcases h.2.2.2 with h0 | ⟨b', off', ha', hb, _⟩
  · have := h.1
    have := digs_len_pos hn
    omega
  · rw [ha] at ha'
    simp only [Option.some.injEq, Addr.mk.injEq] at ha'
    omega
theorem Pw.push {w W w1 : World} {y k : Nat} {P : Nat → Sl} {v v1 : Value} {o : Obj} (h : Pw w W y k P v) (hy : 0 < y) (hg : (W.alloc o).grownBy w1 v.ownBlock) (hob : v1.ownBlock = v.ownBlock ∨ v1.ownBlock = some (W.alloc o).heap.size) :
    (∀ i, i ≤ k → NumAt w1 (P i) (y * 2 ^ i)) ∧ (∀ i, i ≤ k → ∀ b off, (P i).a = some ⟨b, off, none⟩ → v1.ownBlock ≠ some b) ∧ Below w.heap.size w w1 := by
  refine ⟨fun i hi => UAt.grown (h.nums i hi) ((World.grownBy_alloc W o _).trans hg) fun b off ha _ => h.sep i hi b off ha, fun i hi b off ha => ?_, Below.grown (w := W.alloc o) (h.bel.alloc h.bel.size _) hg (by simp; have := h.bel.size; omega) (fun k hk => (h.own.lt k hk).1)⟩
  have hb := (h.nums i hi).blk (Nat.mul_pos hy (Nat.two_pow_pos _)) ha
  rcases hob with e | e
  · rw [e]; exact h.sep i hi b off ha
  · rw [e]; simp; omega
theorem Pw.next {w w1 w2 : World} {y k : Nat} {P : Nat → Sl} {v1 : Value} {s : Sl} (hown : w1.ownsRow w.heap.size 65 1 v1 (k + 1) (pwL P k ++ [slV (P k)]))
    (h : (∀ i, i ≤ k → NumAt w1 (P i) (y * 2 ^ i)) ∧ (∀ i, i ≤ k → ∀ b off, (P i).a = some ⟨b, off, none⟩ → v1.ownBlock ≠ some b) ∧ Below w.heap.size w w1)
    (hb : Below w1.heap.size w1 w2) (hs : NumAt w2 s (y * 2 ^ k + y * 2 ^ k)) (hf : ∀ b off, s.a = some ⟨b, off, none⟩ → w1.heap.size ≤ b) : Pw w w2 y (k + 1) (setP P (k + 1) s) v1 := by
  obtain ⟨h1, h2, h3⟩ := h
  refine ⟨by rw [pwL_set _ _ _ (Nat.le_refl _), pwL_succ]; exact own_later' hown hb, fun i hi => ?_, fun i hi b off ha => ?_, h3.trans (hb.mono h3.size)⟩
  · by_cases e : i = k + 1
    · subst e; simp only [setP, if_pos]; rw [pow_step]; exact hs
    · simp only [setP, if_neg e]; exact (h1 i (by omega)).later hb
  · by_cases e : i = k + 1
    · subst e
      simp only [setP, if_pos] at ha
      intro hv
      have := (hown.lt b hv).2
      have := hf b off ha
      omega
    · simp only [setP, if_neg e] at ha
      exact h2 i (by omega) b off ha
theorem Pw.cell {w wr : World} {y k : Nat} {P : Nat → Sl} {v : Value} (h : Pw w wr y k P v) : ∃ va cap, v = .slice va k cap ∧ k ≤ cap ∧ cap ≤ maxLen ∧ (0 < k → ∃ g, va = some ⟨g, 0, none⟩ ∧ g < wr.heap.size ∧ ∀ i, i < k → wr.cell? ⟨g, i, none⟩ = some (slV (P i))) := by
  rcases h.own.2 with ⟨rfl, h0⟩ | ⟨g, cap, cur, rfl, hb, hh, hn, hc, hr, ht⟩
  · subst h0; exact ⟨none, 0, rfl, Nat.le_refl _, Nat.zero_le _, fun h => absurd h (Nat.lt_irrefl _)⟩
  · refine ⟨_, cap, rfl, hn, hc, fun _ => ⟨g, rfl, (Array.getElem?_eq_some_iff.1 hh).1, fun i hi => ?_⟩⟩
    have hcell := World.ownsRow.cells h.own (g := g) rfl
    have c0 := hcell i (slV (P i)) (by simp [pwL, hi])
    rw [add_none, Nat.zero_add] at c0
    exact c0
theorem one_sl (s : Sl) : ∀ u ∈ [slV s], u.oneCell' = true := by
  intro u hu; simp at hu; subst hu; rfl
theorem digs_one : digs 1 = [1] := by rw [digs_pos (by decide), digs_zero]
theorem one_num (w : World) (t : TypeId) : NumAt (w.alloc (.cells #[.int .u64 1] t)) ⟨some ⟨w.heap.size, 0, none⟩, 1, 1⟩ 1 := UAt.new w (digs 1) _ t 1 (by rw [digs_one]; rfl) (by rw [digs_one]; rfl) (by rw [digs_one]; simp)
theorem cmpN_le (a b : Nat) : (cmpN a b ≤ 0 ↔ a ≤ b) := by unfold cmpN; split <;> (try split) <;> omega
set_option maxHeartbeats 8000000 in
theorem div_calls (a : Option Addr) (n c : Nat) (a' : Option Addr) (n' c' : Nat) (x y : Nat) (w : World) (h : NumAt w ⟨a, n, c⟩ x) (h' : NumAt w ⟨a', n', c'⟩ y) (hn : n ≤ 500) (hn' : n' ≤ 500) (hy : 0 < y) :
    Calls Try.prog 100 #[.slice a n c, .slice a' n' c'] w fun e w' => ∃ s t : Sl, e = .returned (.tuple #[.slice s.a s.len s.cap, .slice t.a t.len t.cap]) ∧ NumAt w' s (x / y) ∧ NumAt w' t (x % y) ∧ Cls w w' := by
  have HN := Lib.hid h
  have HN' := Lib.hid h'
  have HL : Hid (n = (digs x).length) := Lib.hid h.1
  have HL' : Hid (n' = (digs y).length) := Lib.hid h'.1
  have HY := Lib.hid hy
  clear h h'
  obtain ⟨i0, hi, hz0, hz1, hz2⟩ := info_parts infoN
  go_enter Try.func100, Try.ntmps100
  go_wp2_with fail
  go_loopw [6, 7] (fun v p wr => ∃ (k : Nat) (P : Nat → Sl), p = .slice (P k).a (P k).len (P k).cap ∧ k ≤ 15000 ∧ Hid (k = 0 ∨ y * 2 ^ (k - 1) ≤ x) ∧ Hid (Pw w wr y k P v)) (fun v _ _ => 15001 - slLen v)
  case atStart => exact ⟨0, fun _ => ⟨a', n', c'⟩, rfl, by omega, Lib.hid (.inl rfl), Lib.hid (Pw.start HN'.out)⟩
  case round =>
    obtain ⟨k, P, rfl, hk, hlast, hP⟩ := hrel
    have hsz := hP.out.bel.size
    have C1 := Lib.hid (compare_calls (P k).a (P k).len (P k).cap a n c (y * 2 ^ k) x wr (hP.out.nums k (Nat.le_refl _)) (HN.out.later hP.out.bel))
    by_cases hgo : y * 2 ^ k ≤ x
    · have d1 : decide (cmpN (y * 2 ^ k) x ≤ 0) = true := decide_eq_true ((cmpN_le _ _).2 hgo)
      have hk2 : k < 15000 := by
        have := len_bound HY.out hgo (n := 500) (by rw [← HL.out]; exact hn)
        omega
      have hpl : (P k).len ≤ 1000 := by
        have e := (hP.out.nums k (Nat.le_refl _)).1
        have := digs_mono hgo
        rw [← HL.out] at this
        omega
      have HGO := Lib.hid hgo
      clear hgo
      generalize cmpN (y * 2 ^ k) x = cr at *
      go_wp2_with (first | (go_at_call 71; (with_reducible refine C1.out.mono ?_); rintro e _ ⟨rfl, ⟨y1, rfl⟩⟩; have ys := y1.size; have HP1 := Lib.hid (hP.out.later y1.below)) | (at_builtin; refine wpList_append_own_at _ rfl _ _ 144 rfl w.heap.size 65 i0 (.slice none 0 0) 1 24 Try.underlying144 hi hz0 hz1 hz2 rfl (by decide) _ k _ rfl (own_later' HP1.out.own (by repeat first | with_reducible exact Below.refl _ _ | with_reducible refine Below.setCell ?_ (by first | omega | (simp; done) | (simp; omega)) _ | with_reducible refine Below.alloc ?_ (by first | omega | (simp; done) | (simp; omega)) _ | with_reducible refine Below.drew ?_ | with_reducible refine Ext.on _ ?_ (by first | omega | (simp; done) | (simp; omega)))) ⟨y1.val.heap.size, 0, none⟩ 1 1 [slV (P k)] rfl rfl (cells_new' _ _ _) (one_sl _) (by unfold maxLen; omega) (by omega) (by first | (simp; done) | (simp; omega)) ?_; intro v1 w1 hown1 hg1 _ hob1; have HU := Lib.hid (HP1.out.push HY.out hg1 hob1); have HO1 := Lib.hid hown1; have s1 := HU.out.2.2.size; have C2 := Lib.hid (plus_calls (P k).a (P k).len (P k).cap (P k).a (P k).len (P k).cap _ _ w1 (HU.out.1 k (Nat.le_refl _)) (HU.out.1 k (Nat.le_refl _)) hpl hpl); clear hown1 hg1 hob1) | (go_at_call 70; (with_reducible refine C2.out.mono ?_); rintro e _ ⟨sn, rfl, hns, hfs, ⟨y2, rfl⟩⟩; have HP3 := Lib.hid (Pw.next HO1.out HU.out y2.below hns hfs); clear hns hfs))
      go_roundw
      case rel => exact ⟨k + 1, setP P (k + 1) sn, by simp [setP], by omega, Lib.hid (.inr HGO.out), HP3⟩
      case measure => have m1 := own_slLen hP.out.own; have m2 := own_slLen HO1.out; (simp [m1, m2]; omega)
    · have d1 : decide (cmpN (y * 2 ^ k) x ≤ 0) = false := decide_eq_false (fun h => hgo ((cmpN_le _ _).1 h))
      have HI0 : Hid (DivI x y k 0 x) := Lib.hid (DivI.start (by omega))
      clear hgo
      generalize cmpN (y * 2 ^ k) x = cr at *
      obtain ⟨va, cap, hv, hkc, hcm, hrest⟩ := hP.out.cell
      subst hv
      have HCL := Lib.hid hrest
      clear hrest
      unfold maxLen at hcm
      go_wp2_with (go_at_call 71; (with_reducible refine C1.out.mono ?_); rintro e _ ⟨rfl, ⟨y1, rfl⟩⟩; have ys := y1.size; have HP1 := Lib.hid (hP.out.later y1.below))
      go_loopw [0, 8, 9] (fun s0 s8 s9 wq => ∃ (j q r : Nat) (A Q : Sl), j ≤ k ∧ s9 = .int .i64 ((j : Int) - 1) ∧ s0 = .slice A.a A.len A.cap ∧ s8 = .slice Q.a Q.len Q.cap ∧ Hid (DivI x y j q r) ∧ Hid (NumAt wq A r) ∧ Hid (NumAt wq Q q) ∧ Cls y1.val wq) (fun _ _ s9 _ => (intOf s9 + 1).toNat)
      case atStart => exact ⟨k, 0, x, ⟨a, n, c⟩, Sl.z, Nat.le_refl _, rfl, rfl, rfl, HI0, Lib.hid (HN.out.later HP1.out.bel), Lib.hid (by unfold NumAt; rw [digs_zero]; exact UAt.nil), Cls.of (Below.refl _ _)⟩
      case round =>
        obtain ⟨j, q, r, A, Q, hj, rfl, rfl, rfl, hI, hA, hQ, z, rfl⟩ := hrel
        have hzs := z.size
        by_cases hj0 : 0 < j
        · obtain ⟨i, rfl⟩ : ∃ i, j = i + 1 := ⟨j - 1, by omega⟩
          obtain ⟨g, hva, hgs, hcell⟩ := HCL.out (by omega)
          subst hva
          have HPZ := Lib.hid (HP1.out.later z.below)
          have hgz : g < z.val.heap.size := by omega
          have zc : z.val.cell? ⟨g, i, none⟩ = some (.slice (P i).a (P i).len (P i).cap) := (z.below.cell (p := ⟨g, i, none⟩) (by show g < _; omega)).trans ((y1.below.cell (p := ⟨g, i, none⟩) hgs).trans (hcell i (by omega)))
          clear hcell
          have hAl : A.len ≤ 500 := by
            have := hA.out.1
            have := digs_mono hI.out.r_le
            have := HL.out
            omega
          have hQl : Q.len ≤ 1000 := by
            have := hQ.out.1
            have := digs_mono (hI.out.q_le HY.out)
            have := HL.out
            omega
          have hQ2 : Hid (∀ (s : Sl) (W : World), NumAt W s (q + q) → s.len ≤ 1000) := Lib.hid fun s W h => by
            have := h.1
            have := digs_mono (hI.out.qq_le HY.out)
            have := HL.out
            omega
          have C2 := Lib.hid (plus_calls Q.a Q.len Q.cap Q.a Q.len Q.cap _ _ z.val hQ.out hQ.out hQl hQl)
          have C3 : Hid (∀ W : World, Below z.val.heap.size z.val W → Calls Try.prog 71 #[.slice (P i).a (P i).len (P i).cap, .slice A.a A.len A.cap] W fun e w' => e = .returned (.int .i64 (cmpN (y * 2 ^ i) r)) ∧ Cls W w') := Lib.hid fun W hb => compare_calls (P i).a (P i).len (P i).cap A.a A.len A.cap _ _ W ((HPZ.out.nums i (by omega)).later hb) (hA.out.later hb)
          have C4 : Hid (y * 2 ^ i ≤ r → ∀ W : World, Below z.val.heap.size z.val W → Calls Try.prog 72 #[.slice A.a A.len A.cap, .slice (P i).a (P i).len (P i).cap] W fun e w' => ∃ s : Sl, e = .returned (.slice s.a s.len s.cap) ∧ NumAt w' s (r - y * 2 ^ i) ∧ Cls W w') := Lib.hid fun hle W hb => minus_calls A.a A.len A.cap (P i).a (P i).len (P i).cap _ _ W (hA.out.later hb) ((HPZ.out.nums i (by omega)).later hb) (by omega) hle
          have e0 : ((i + 1 : Nat) : Int) - 1 = (i : Int) := by omega
          rw [e0]
          clear e0
          have hik : i < k := by omega
          by_cases hgo : y * 2 ^ i ≤ r
          · have d2 : decide (cmpN (y * 2 ^ i) r ≤ 0) = true := decide_eq_true ((cmpN_le _ _).2 hgo)
            have C5 := Lib.hid (C4.out hgo)
            have HIN := Lib.hid (hI.out.yes hgo)
            clear hgo C4 hI
            generalize cmpN (y * 2 ^ i) r = cr2 at *
            have tok1 : True := trivial
            go_wp2_with (first | (go_at_call 70; have _t := tok1; (with_reducible refine C2.out.mono ?_); rintro e _ ⟨s2, rfl, hn2, _, ⟨y2, rfl⟩⟩; have y2s := y2.size; have hgy2 : g < y2.val.heap.size := (by omega); have HQ2 := Lib.hid hn2; have hs2 := hQ2.out _ _ hn2; clear hn2 tok1 _t) | (go_at_call 71; (with_reducible refine (C3.out _ y2.below).mono ?_); rintro e _ ⟨rfl, ⟨y3, rfl⟩⟩; have y3s := y3.size; have hgy3 : g < y3.val.heap.size := (by omega)) | (go_at_call 72; (with_reducible refine (C5.out _ (y3.on y2.below y2.size)).mono ?_); rintro e _ ⟨s4, rfl, hn4, ⟨y4, rfl⟩⟩; have y4s := y4.size; have HA4 := Lib.hid hn4; have HQ4 := Lib.hid ((HQ2.out.later y3.below).later y4.below); clear hn4) | (go_at_call 70; (with_reducible refine (plus_calls s2.a s2.len s2.cap (some ⟨y4.val.heap.size, 0, none⟩) 1 1 (q + q) 1 _ (HQ4.out.later ((Below.refl _ _).alloc (Nat.le_refl _) _)) (one_num _ _) hs2 (by decide)).mono ?_); rintro e _ ⟨s5, rfl, hn5, _, ⟨y5, rfl⟩⟩))
            go_roundw
            case rel => exact ⟨i, q + q + 1, r - y * 2 ^ i, s4, s5, by omega, rfl, rfl, rfl, HIN, Lib.hid ((HA4.out.later ((Below.refl _ _).alloc (Nat.le_refl _) _)).later (y5.below.mono (by simp))), Lib.hid hn5, Cls.of (y5.on ((y4.on (y3.on (y2.on z.below (by omega)) (by omega)) (by omega)).alloc (by omega) _) (by simp; omega))⟩
            case measure => first | (simp [intOf]; done) | (simp [intOf]; omega)
          · have d2 : decide (cmpN (y * 2 ^ i) r ≤ 0) = false := decide_eq_false (fun h => hgo ((cmpN_le _ _).1 h))
            have HIN := Lib.hid (hI.out.no (by omega))
            clear hgo C4 hI
            generalize cmpN (y * 2 ^ i) r = cr2 at *
            go_wp2_with (first | (go_at_call 70; (with_reducible refine C2.out.mono ?_); rintro e _ ⟨s2, rfl, hn2, _, ⟨y2, rfl⟩⟩; have y2s := y2.size; have hgy2 : g < y2.val.heap.size := (by omega); have HQ2 := Lib.hid hn2; clear hn2) | (go_at_call 71; (with_reducible refine (C3.out _ y2.below).mono ?_); rintro e _ ⟨rfl, ⟨y3, rfl⟩⟩; have y3s := y3.size))
            go_roundw
            case rel => exact ⟨i, q + q, r, A, s2, by omega, rfl, rfl, rfl, HIN, Lib.hid ((hA.out.later y2.below).later y3.below), Lib.hid (HQ2.out.later y3.below), Cls.of (y3.on (y2.on z.below (by omega)) (by omega))⟩
            case measure => first | (simp [intOf]; done) | (simp [intOf]; omega)
        · obtain rfl : j = 0 := by omega
          have HE := Lib.hid (hI.out.end HY.out)
          go_wp2_with fail
          go_ret2
          exact ⟨Q, A, rfl, by rw [← HE.out.1]; exact hQ.out, by rw [← HE.out.2]; exact hA.out, Cls.of (z.on (y1.on hP.out.bel (by omega)) (by omega))⟩
end Go.Proofs.Ythbdkhmgopahbaa
set_option linter.unusedVariables false
namespace Go.Proofs.Ythbdkhmgopahbaa
open Go Go.RowKit Go.Deep
def celN (w : World) (a : Option Addr) (i : Nat) : Nat :=
  match a with
  | some ⟨b, off, none⟩ => (match w.cell? ⟨b, off + i, none⟩ with
    | some (.int _ n) => n.toNat
    | _ => 0)
  | _ => 0
/-- The number that a slice spells. -/
def numV (w : World) (v : Value) : Nat :=
  match v with
  | .slice a n _ => vl ((List.range n).map (celN w a))
  | _ => 0
theorem numV_is {w : World} {a : Option Addr} {n c : Nat} {m : Nat} (h : NumAt w ⟨a, n, c⟩ m) : numV w (.slice a n c) = m := by
  have e : (List.range n).map (celN w a) = digs m := by
    have h1 : n = (digs m).length := h.1
    apply List.ext_getElem
    · simpa using h1
    · intro i hi hi'
      rcases h.2.2.2 with h0 | ⟨b, off, ha, hb, hc⟩
      · have h0' : n = 0 := h0
        simp at hi; omega
      · have ha' : a = some ⟨b, off, none⟩ := ha
        subst ha'
        have := hc i (by simpa using hi)
        simp [celN, this, List.getD, hi']
  simp only [numV, e, vl_digs]
set_option maxHeartbeats 8000000 in
theorem gcd_calls (a : Option Addr) (n c : Nat) (a' : Option Addr) (n' c' : Nat) (x y : Nat) (w : World) (h : NumAt w ⟨a, n, c⟩ x) (h' : NumAt w ⟨a', n', c'⟩ y) (hn : n ≤ 500) (hn' : n' ≤ 500) :
    Calls Try.prog 96 #[.slice a n c, .slice a' n' c'] w fun e w' => ∃ s : Sl, e = .returned (.slice s.a s.len s.cap) ∧ NumAt w' s (Nat.gcd x y) ∧ Cls w w' := by
  have HN := Lib.hid h
  have HN' := Lib.hid h'
  clear h h'
  go_enter Try.func96, Try.ntmps96
  go_wp2_with fail
  go_loopw [0, 1] (fun s0 s1 wr => ∃ (p q : Nat) (A B : Sl), s0 = .slice A.a A.len A.cap ∧ s1 = .slice B.a B.len B.cap ∧ A.len ≤ 500 ∧ B.len ≤ 500 ∧ Hid (NumAt wr A p) ∧ Hid (NumAt wr B q) ∧ Hid (Nat.gcd p q = Nat.gcd x y) ∧ Cls w wr) (fun _ s1 wr => numV wr s1)
  case atStart => exact ⟨x, y, ⟨a, n, c⟩, ⟨a', n', c'⟩, rfl, rfl, hn, hn', HN, HN', Lib.hid rfl, Cls.of (Below.refl _ _)⟩
  case round =>
    obtain ⟨p, q, A, B, rfl, rfl, hA, hB, hP, hQ, hG, z, rfl⟩ := hrel
    have hM := Lib.hid (numV_is (a := B.a) (n := B.len) (c := B.cap) hQ.out)
    by_cases h0 : q = 0
    · subst h0
      have hl : B.len = 0 := by rw [hQ.out.1, digs_zero]; rfl
      have d1 : decide (0 < B.len) = false := decide_eq_false (by omega)
      clear hl
      go_wp2_with fail
      go_ret
      exact ⟨A, rfl, by rw [← hG.out, Nat.gcd_zero_right]; exact hP.out, z, rfl⟩
    · have hl : 0 < B.len := by rw [hQ.out.1]; exact digs_len_pos (Nat.pos_of_ne_zero h0)
      have C1 := Lib.hid (div_calls A.a A.len A.cap B.a B.len B.cap p q z.val hP.out hQ.out hA hB (Nat.pos_of_ne_zero h0))
      have H0 := Lib.hid h0
      have HLE : Hid (∀ (s : Sl) (W : World), NumAt W s (p % q) → s.len ≤ 500) := Lib.hid fun s W h => by
        have := h.1
        have := digs_mono (Nat.le_of_lt (Nat.mod_lt p (Nat.pos_of_ne_zero h0)))
        have := hQ.out.1
        omega
      clear h0
      go_wp2_with (go_at_call 100; (with_reducible refine C1.out.mono ?_); rintro e _ ⟨s, t, rfl, hs, ht, ⟨y1, rfl⟩⟩; have y1s := y1.size; have HT := Lib.hid ht; clear hs ht)
      go_roundw
      case rel => exact ⟨q, p % q, B, t, rfl, rfl, hB, HLE.out _ _ HT.out, Lib.hid (hQ.out.later y1.below), HT, Lib.hid (by rw [gcd_step _ _ (Nat.pos_of_ne_zero H0.out)]; exact hG.out), Cls.of (y1.on z.below z.size)⟩
      case measure =>
        have m1 := hM.out
        have m2 := numV_is (a := t.a) (n := t.len) (c := t.cap) HT.out
        simp [m1, m2]
        exact Nat.mod_lt _ (Nat.pos_of_ne_zero H0.out)
end Go.Proofs.Ythbdkhmgopahbaa
