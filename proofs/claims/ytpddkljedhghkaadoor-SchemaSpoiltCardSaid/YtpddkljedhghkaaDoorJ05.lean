/-
  Keys: which lists of columns are keys of a table, and the program's isKey. Keys: the reference's listed. Which strings are names: the program's Name and the reference's give one and the same Bool for every string.
-/
import Derived.Test.YtpddkljedhghkaaDoorJ02
import Derived.Test.YtpddkljedhghkaaDoorJ04
import Derived.Test.YtpddkljedhghkaaDoorChecked
import Derived.Test.YtpddkljedhghkaaDoorJ01
import Derived.Deep.Slices
import Derived.Deep.Strs
import Derived.ProofKit
import Derived.Lib.Strings
import Derived.Lib.Hide
import Derived.LoopTactic
import Derived.BigQuiet
import Derived.Deep.QuietTactic
set_option linter.unusedVariables false
namespace Go.Proofs.YtpddkljedhghkaaDoor
open Go Go.RowKit Go.Deep
theorem SlAt.take {w : World} {k : Nat} {s : Sl} {c : Nat → List Value} (h : SlAt w k s c) {i : Nat} (hi : i ≤ s.len) : SlAt w k ⟨s.a, i, s.cap⟩ c :=
  ⟨Nat.le_trans hi h.1, h.2.1, fun e => ⟨by have := (h.2.2.1 e).1; show i = 0; omega, (h.2.2.1 e).2⟩, fun j hj => h.2.2.2 j (Nat.lt_of_lt_of_le hj hi)⟩
def sameP (f : Nat → Int) (v : Int) (j : Nat) : Bool := v == f j
set_option maxHeartbeats 4000000 in
set_option maxRecDepth 20000 in
theorem indexI_calls (s : Sl) (f : Nat → Int) (v : Int) (w : World) (hs : SlAt w 1 s (intC f)) :
    Calls Tryd.prog 170 #[.slice s.a s.len s.cap, .int .i64 v] w fun r w' => r = .returned (.int .i64 (idx (sameP f v) 0 s.len)) ∧ Cls w w' := by
  have hle := hs.1
  have hmax := hs.2.1
  unfold maxLen at hmax
  have H := Lib.hid hs.2.2.2
  clear hs
  obtain ⟨sa, sn, sc⟩ := s
  simp only at hle hmax H
  go_enter Tryd.func170, Tryd.ntmps170
  go_wp2_with fail
  go_loopw [8] (fun i wr => ∃ j : Nat, j ≤ sn ∧ i = .int .i64 j ∧ idx (sameP f v) 0 sn = idx (sameP f v) j (sn - j) ∧ Cls w wr) (fun i _ => sn - (intOf i).toNat)
  case atStart => exact ⟨0, Nat.zero_le _, rfl, rfl, Cls.of (Below.refl _ _)⟩
  case round =>
    obtain ⟨j, hj, rfl, he, x, rfl⟩ := hrel
    have HE := Lib.hid he
    clear he
    have xs := x.size
    by_cases hltj : j < sn
    · obtain ⟨b, off, ha, hb2, hc⟩ := H.out j hltj
      subst ha
      have q0 := hc 0 (by omega)
      simp only [intC, List.getElem?_cons_zero, Nat.add_zero, Nat.mul_one] at q0
      have hS : Hid (sn - j = (sn - (j + 1)) + 1) := Lib.hid (by omega)
      have hP : Hid (sameP f v j = (v == f j)) := Lib.hid rfl
      clear hc
      generalize f j = u at q0 hP
      cases hbb : (v == u)
      all_goals
        have HB := Lib.hid hbb
        go_wp2_with fail
      · go_roundw
        case rel => exact ⟨j + 1, by omega, by go_num, by rw [HE.out, hS.out, idx_go (hP.out.trans HB.out)], x, rfl⟩
        case measure => simp [intOf]; omega
      · go_ret
        exact ⟨ret_int (by rw [HE.out, hS.out, idx_stop (hP.out.trans HB.out)]), x, rfl⟩
    · have hz : Hid (sn - j = 0) := Lib.hid (by omega)
      go_wp2_with fail
      go_ret
      exact ⟨ret_int (by rw [HE.out, hz.out]; rfl), x, rfl⟩
set_option maxHeartbeats 4000000 in
set_option maxRecDepth 20000 in
theorem containsI_calls (s : Sl) (f : Nat → Int) (v : Int) (w : World) (hs : SlAt w 1 s (intC f)) :
    Calls Tryd.prog 149 #[.slice s.a s.len s.cap, .int .i64 v] w fun r w' => r = .returned (.bool (decide (0 ≤ idx (sameP f v) 0 s.len))) ∧ Cls w w' := by
  have C1 := Lib.hid (indexI_calls s f v w hs)
  clear hs
  generalize idx (sameP f v) 0 s.len = n at C1 ⊢
  go_enter Tryd.func149, Tryd.ntmps149
  go_wp2_with (go_at_call 170; ((with_reducible refine C1.out.mono ?_); rintro r _ ⟨rfl, y, rfl⟩))
  go_ret
  exact ⟨ret_bool (by simp), y, rfl⟩
/-- The i-th number can't stand in a key. -/
def badK (n : Nat) (f : Nat → Int) (i : Nat) : Bool := decide (f i < 0) || decide ((n : Int) ≤ f i) || decide (0 ≤ idx (sameP f (f i)) 0 i)
/-- A list is a key of a table with so many columns. -/
def keyB (n : Nat) (f : Nat → Int) (len : Nat) : Bool := decide (idx (badK n f) 0 len < 0) && decide (0 < len)
theorem keyB_no {n len : Nat} {f : Nat → Int} {j : Nat} (h : idx (badK n f) 0 len = (j : Nat)) : keyB n f len = false := by
  unfold keyB
  rw [h]
  have : decide (((j : Nat) : Int) < 0) = false := by simp
  rw [this, Bool.false_and]
theorem keyB_end {n len : Nat} {f : Nat → Int} (h : idx (badK n f) 0 len = -1) : keyB n f len = decide (0 < len) := by
  unfold keyB
  rw [h]
  simp
set_option maxHeartbeats 4000000 in
set_option maxRecDepth 20000 in
theorem isKey_calls (t : Tb) (s : Sl) (f : Nat → Int) (w : World) (hs : SlAt w 1 s (intC f)) (hc0 : t.cs.len ≤ maxLen) :
    Calls Tryd.prog 130 #[.agg #[.string t.name, .slice t.cs.a t.cs.len t.cs.cap, .slice t.ps.a t.ps.len t.ps.cap, .slice t.us.a t.us.len t.us.cap, .slice t.fs.a t.fs.len t.fs.cap, .slice t.ks.a t.ks.len t.ks.cap], .slice s.a s.len s.cap] w fun r w' => r = .returned (.bool (keyB t.cs.len f s.len)) ∧ Cls w w' := by
  have hle := hs.1
  have hmax := hs.2.1
  unfold maxLen at hmax hc0
  have H := Lib.hid hs
  clear hs
  obtain ⟨tn, ⟨ca, cn, cc⟩, tf, tps, tprim, tus, tuq, tuqn, tfs, tfk, tfkn, tfkt, tks, tch⟩ := t
  obtain ⟨sa, sn, sc⟩ := s
  simp only at hle hmax H hc0
  go_enter Tryd.func130, Tryd.ntmps130
  go_wp2_with fail
  have hbl : (w.alloc (.cells #[.string tn, .slice ca cn cc, .slice tps.a tps.len tps.cap, .slice tus.a tus.len tus.cap, .slice tfs.a tfs.len tfs.cap, .slice tks.a tks.len tks.cap] 53)).heap[w.heap.size]? = some (.cells #[.string tn, .slice ca cn cc, .slice tps.a tps.len tps.cap, .slice tus.a tus.len tus.cap, .slice tfs.a tfs.len tfs.cap, .slice tks.a tks.len tks.cap] 53) := heap_alloc_new w _
  have HBL := Lib.hid hbl
  have HB0 : Hid (Below w.heap.size w (w.alloc (.cells #[.string tn, .slice ca cn cc, .slice tps.a tps.len tps.cap, .slice tus.a tus.len tus.cap, .slice tfs.a tfs.len tfs.cap, .slice tks.a tks.len tks.cap] 53))) := Lib.hid (by repeat first | with_reducible exact Below.refl _ _ | with_reducible refine Below.setCell ?_ (by first | omega | (simp; done) | (simp; omega)) _ | with_reducible refine Below.alloc ?_ (by first | omega | (simp; done) | (simp; omega)) _ | with_reducible refine Below.drew ?_ | with_reducible refine Ext.on _ ?_ (by first | omega | (simp; done) | (simp; omega)))
  have h0s : (w.alloc (.cells #[.string tn, .slice ca cn cc, .slice tps.a tps.len tps.cap, .slice tus.a tus.len tus.cap, .slice tfs.a tfs.len tfs.cap, .slice tks.a tks.len tks.cap] 53)).heap.size = w.heap.size + 1 := by simp
  clear hbl
  generalize (w.alloc (.cells #[.string tn, .slice ca cn cc, .slice tps.a tps.len tps.cap, .slice tus.a tus.len tus.cap, .slice tfs.a tfs.len tfs.cap, .slice tks.a tks.len tks.cap] 53)) = W0 at *
  go_loopw [9] (fun i wr => ∃ j : Nat, j ≤ sn ∧ i = .int .i64 j ∧ idx (badK cn f) 0 sn = idx (badK cn f) j (sn - j) ∧ Cls W0 wr) (fun i _ => sn - (intOf i).toNat)
  case atStart => exact ⟨0, Nat.zero_le _, rfl, rfl, Cls.of (Below.refl _ _)⟩
  case round =>
    obtain ⟨j, hj, rfl, he, x, rfl⟩ := hrel
    have HE := Lib.hid he
    clear he
    have xs := x.size
    obtain ⟨b0, _, _, _, _, _, _, _, k1, _, _, _, _⟩ := six_z ((x.below.block _ (by omega)).trans HBL.out)
    by_cases hltj : j < sn
    · obtain ⟨b, off, ha, hb2, hc⟩ := H.out.2.2.2 j hltj
      simp only at ha
      subst ha
      have q0 := hc 0 (by omega)
      simp only [intC, List.getElem?_cons_zero, Nat.add_zero, Nat.mul_one] at q0
      rw [← (HB0.out.trans (x.below.mono (by omega))).cell (p := ⟨b, _, none⟩) hb2] at q0
      have hS : Hid (sn - j = (sn - (j + 1)) + 1) := Lib.hid (by omega)
      have hP : Hid (badK cn f j = (decide (f j < 0) || decide ((cn : Int) ≤ f j) || decide (0 ≤ idx (sameP f (f j)) 0 j))) := Lib.hid rfl
      have C1 : Hid (Calls Tryd.prog 149 #[.slice (some ⟨b, off, none⟩) j sc, .int .i64 (f j)] x.val fun r w' => r = .returned (.bool (decide (0 ≤ idx (sameP f (f j)) 0 j))) ∧ Cls x.val w') := Lib.hid (containsI_calls ⟨some ⟨b, off, none⟩, j, sc⟩ f (f j) x.val ((H.out.later (HB0.out.trans (x.below.mono (by omega)))).take (by show j ≤ sn; omega)))
      have hb3 : b < x.val.heap.size := by omega
      clear hc
      generalize f j = u at q0 hP C1
      by_cases h1 : u < 0
      · have d1 : decide (u < 0) = true := by simp; omega
        have hQ : Hid (badK cn f j = true) := Lib.hid (by rw [hP.out, d1]; simp)
        go_wp2_with fail
        go_ret
        exact ⟨ret_bool (by show false = keyB cn f sn; rw [keyB_no (j := j) (by rw [HE.out, hS.out, idx_stop hQ.out])]), Cls.of (HB0.out.trans (x.below.mono (by omega)))⟩
      · have d1 : decide (u < 0) = false := by simp; omega
        by_cases h2 : (cn : Int) ≤ u
        · have d2 : decide ((cn : Int) ≤ u) = true := by simp; omega
          have hQ : Hid (badK cn f j = true) := Lib.hid (by rw [hP.out, d2]; simp)
          go_wp2_with fail
          go_ret
          exact ⟨ret_bool (by show false = keyB cn f sn; rw [keyB_no (j := j) (by rw [HE.out, hS.out, idx_stop hQ.out])]), Cls.of (HB0.out.trans (x.below.mono (by omega)))⟩
        · have d2 : decide ((cn : Int) ≤ u) = false := by simp; omega
          have hQ : Hid (badK cn f j = decide (0 ≤ idx (sameP f u) 0 j)) := Lib.hid (by rw [hP.out, d1, d2]; simp)
          generalize decide (0 ≤ idx (sameP f u) 0 j) = bb at C1 hQ
          cases bb
          all_goals
            go_wp2_with (go_at_call 149; ((with_reducible refine C1.out.mono ?_); rintro r _ ⟨rfl, y, rfl⟩))
          · go_roundw
            case rel => exact ⟨j + 1, by omega, by go_num, by rw [HE.out, hS.out, idx_go hQ.out], Cls.of (x.below.trans (y.below.mono x.size))⟩
            case measure => simp [intOf]; omega
          · go_ret
            exact ⟨ret_bool (by show false = keyB cn f sn; rw [keyB_no (j := j) (by rw [HE.out, hS.out, idx_stop hQ.out])]), Cls.of (HB0.out.trans ((x.below.trans (y.below.mono x.size)).mono (by omega)))⟩
    · have hz : Hid (sn - j = 0) := Lib.hid (by omega)
      go_wp2_with fail
      go_ret
      exact ⟨ret_bool (by show decide (0 < sn) = keyB cn f sn; rw [keyB_end (by rw [HE.out, hz.out]; rfl)]), Cls.of (HB0.out.trans (x.below.mono (by omega)))⟩
end Go.Proofs.YtpddkljedhghkaaDoor
set_option linter.unusedVariables false
namespace Go.Proofs.YtpddkljedhghkaaDoor
open Go Go.RowKit Go.Deep
set_option maxHeartbeats 8000000 in
set_option maxRecDepth 20000 in
theorem listed_calls (t : Tb) (s : Sl) (f : Nat → Int) (w : World) (hs : SlAt w 1 s (intC f)) (hc0 : t.cs.len ≤ maxLen) :
    Calls Tryd.prog 107 #[.agg #[.string t.name, .slice t.cs.a t.cs.len t.cs.cap, .slice t.ps.a t.ps.len t.ps.cap, .slice t.us.a t.us.len t.us.cap, .slice t.fs.a t.fs.len t.fs.cap, .slice t.ks.a t.ks.len t.ks.cap], .slice s.a s.len s.cap] w fun r w' => r = .returned (.bool (keyB t.cs.len f s.len)) ∧ Cls w w' := by
  have hle := hs.1
  have hmax := hs.2.1
  unfold maxLen at hmax hc0
  have H := Lib.hid hs
  clear hs
  obtain ⟨tn, ⟨ca, cn, cc⟩, tf, tps, tprim, tus, tuq, tuqn, tfs, tfk, tfkn, tfkt, tks, tch⟩ := t
  obtain ⟨sa, sn, sc⟩ := s
  simp only at hle hmax H hc0
  go_enter Tryd.func107, Tryd.ntmps107
  go_wp2_with fail
  have hbl : (w.alloc (.cells #[.string tn, .slice ca cn cc, .slice tps.a tps.len tps.cap, .slice tus.a tus.len tus.cap, .slice tfs.a tfs.len tfs.cap, .slice tks.a tks.len tks.cap] 53)).heap[w.heap.size]? = some (.cells #[.string tn, .slice ca cn cc, .slice tps.a tps.len tps.cap, .slice tus.a tus.len tus.cap, .slice tfs.a tfs.len tfs.cap, .slice tks.a tks.len tks.cap] 53) := heap_alloc_new w _
  have HBL := Lib.hid hbl
  have HB0 : Hid (Below w.heap.size w (w.alloc (.cells #[.string tn, .slice ca cn cc, .slice tps.a tps.len tps.cap, .slice tus.a tus.len tus.cap, .slice tfs.a tfs.len tfs.cap, .slice tks.a tks.len tks.cap] 53))) := Lib.hid (by repeat first | with_reducible exact Below.refl _ _ | with_reducible refine Below.setCell ?_ (by first | omega | (simp; done) | (simp; omega)) _ | with_reducible refine Below.alloc ?_ (by first | omega | (simp; done) | (simp; omega)) _ | with_reducible refine Below.drew ?_ | with_reducible refine Ext.on _ ?_ (by first | omega | (simp; done) | (simp; omega)))
  have h0s : w.heap.size < (w.alloc (.cells #[.string tn, .slice ca cn cc, .slice tps.a tps.len tps.cap, .slice tus.a tus.len tus.cap, .slice tfs.a tfs.len tfs.cap, .slice tks.a tks.len tks.cap] 53)).heap.size := by simp
  clear hbl
  generalize (w.alloc (.cells #[.string tn, .slice ca cn cc, .slice tps.a tps.len tps.cap, .slice tus.a tus.len tus.cap, .slice tfs.a tfs.len tfs.cap, .slice tks.a tks.len tks.cap] 53)) = W0 at *
  obtain ⟨_, _, _, _, _, _, _, _, k1, _, _, _, _⟩ := six_z HBL.out
  go_loopw [5] (fun i wr => ∃ j : Nat, j ≤ sn ∧ i = .int .i64 j ∧ idx (badK cn f) 0 sn = idx (badK cn f) j (sn - j) ∧ Cls W0 wr) (fun i _ => sn - (intOf i).toNat)
  case atStart => exact ⟨0, Nat.zero_le _, rfl, rfl, Cls.of (Below.refl _ _)⟩
  case round =>
    obtain ⟨j, hj, rfl, he, x, rfl⟩ := hrel
    have HE := Lib.hid he
    clear he
    have xs := x.size
    by_cases hltj : j < sn
    · obtain ⟨b, off, ha, hb2, hc⟩ := H.out.2.2.2 j hltj
      simp only at ha
      subst ha
      have q0 := hc 0 (by omega)
      simp only [intC, List.getElem?_cons_zero, Nat.add_zero, Nat.mul_one] at q0
      rw [← HB0.out.cell (p := ⟨b, _, none⟩) hb2] at q0
      have hb3 : b < W0.heap.size := by omega
      have hS : Hid (sn - j = (sn - (j + 1)) + 1) := Lib.hid (by omega)
      have hP : Hid (badK cn f j = (decide (f j < 0) || decide ((cn : Int) ≤ f j) || decide (0 ≤ idx (sameP f (f j)) 0 j))) := Lib.hid rfl
      have HCK : Hid (∀ k, k < j → W0.cell? ⟨b, off + k, none⟩ = some (.int .i64 (f k)) ∧ ∀ v, sameP f v k = (v == f k)) := Lib.hid fun k hk => by
        obtain ⟨b', off', ha', hb', hc'⟩ := H.out.2.2.2 k (by show k < sn; omega)
        have ha2 : some (⟨b, off, none⟩ : Addr) = some ⟨b', off', none⟩ := ha'
        simp only [Option.some.injEq, Addr.mk.injEq, and_true] at ha2
        obtain ⟨rfl, rfl⟩ := ha2
        have r0 := hc' 0 (by omega)
        simp only [intC, List.getElem?_cons_zero, Nat.add_zero, Nat.mul_one] at r0
        rw [← HB0.out.cell (p := ⟨b, _, none⟩) hb2] at r0
        exact ⟨r0, fun v => rfl⟩
      clear hc
      generalize f j = u at q0 hP
      by_cases h1 : u < 0
      · have d1 : decide (u < 0) = true := by simp; omega
        have hQ : Hid (badK cn f j = true) := Lib.hid (by rw [hP.out, d1]; simp)
        go_wp2_with fail
        refine wp_region_on (by kernel_rfl) (by kernel_rfl) ?_
        repeat (go_big_quiet_step (fail))
        refine wpQuiet_nil ?_
        rintro _ ⟨y, rfl⟩
        go_wp2_with fail
        go_ret
        exact ⟨ret_bool (by show false = keyB cn f sn; rw [keyB_no (j := j) (by rw [HE.out, hS.out, idx_stop hQ.out])]), Cls.of (HB0.out.trans (y.below.mono (by omega)))⟩
      · have d1 : decide (u < 0) = false := by simp; omega
        by_cases h2 : (cn : Int) ≤ u
        · have d2 : decide ((cn : Int) ≤ u) = true := by simp; omega
          have hQ : Hid (badK cn f j = true) := Lib.hid (by rw [hP.out, d2]; simp)
          go_wp2_with fail
          refine wp_region_on (by kernel_rfl) (by kernel_rfl) ?_
          repeat (go_big_quiet_step (fail))
          refine wpQuiet_nil ?_
          rintro _ ⟨y, rfl⟩
          go_wp2_with fail
          go_ret
          exact ⟨ret_bool (by show false = keyB cn f sn; rw [keyB_no (j := j) (by rw [HE.out, hS.out, idx_stop hQ.out])]), Cls.of (HB0.out.trans (y.below.mono (by omega)))⟩
        · have d2 : decide ((cn : Int) ≤ u) = false := by simp; omega
          have hQ : Hid (badK cn f j = decide (0 ≤ idx (sameP f u) 0 j)) := Lib.hid (by rw [hP.out, d1, d2]; simp)
          go_wp2_with fail
          refine wp_region_on (by kernel_rfl) (by kernel_rfl) ?_
          repeat (go_big_quiet_step (fail))
          refine wpQuiet_nil ?_
          rintro _ ⟨y, rfl⟩
          go_wp2_with fail
          go_loopw [6] (fun i wr => ∃ k : Nat, k ≤ j ∧ i = .int .i64 k ∧ idx (sameP f u) 0 j = idx (sameP f u) k (j - k) ∧ Cls W0 wr) (fun i _ => j - (intOf i).toNat)
          case atStart => exact ⟨0, Nat.zero_le _, rfl, rfl, y, rfl⟩
          case round =>
            clear y
            obtain ⟨k, hk, rfl, hi, z, rfl⟩ := hrel
            have HI := Lib.hid hi
            clear hi
            have zs := z.size
            by_cases hltk : k < j
            · obtain ⟨r0, hsp⟩ := HCK.out k hltk
              have HSP := Lib.hid (hsp u)
              have hS2 : Hid (j - k = (j - (k + 1)) + 1) := Lib.hid (by omega)
              clear hsp
              generalize f k = v at r0 HSP
              by_cases huv : u = v
              · have hT : Hid (sameP f u k = true) := Lib.hid (by rw [HSP.out, huv]; simp)
                have hb : Hid (badK cn f j = true) := Lib.hid (by rw [hQ.out, HI.out, hS2.out, idx_stop hT.out]; simp)
                have b1 : (v == u) = true := by simp [huv]
                clear huv
                go_wp2_with fail
                refine wp_region_on (by kernel_rfl) (by kernel_rfl) ?_
                repeat (go_big_quiet_step (fail))
                refine wpQuiet_nil ?_
                rintro _ ⟨y, rfl⟩
                go_wp2_with fail
                go_ret
                exact ⟨ret_bool (by show false = keyB cn f sn; rw [keyB_no (j := j) (by rw [HE.out, hS.out, idx_stop hb.out])]), Cls.of (HB0.out.trans (y.below.mono (by omega)))⟩
              · have hT : Hid (sameP f u k = false) := Lib.hid (by rw [HSP.out]; simp [huv])
                have b1 : (v == u) = false := by simp; exact fun h => huv h.symm
                clear huv
                go_wp2_with fail
                refine wp_region_on (by kernel_rfl) (by kernel_rfl) ?_
                repeat (go_big_quiet_step (fail))
                refine wpQuiet_nil ?_
                rintro _ ⟨y, rfl⟩
                go_wp2_with fail
                go_roundw
                case rel => exact ⟨k + 1, by omega, by go_num, by rw [HI.out, hS2.out, idx_go hT.out], y, rfl⟩
                case measure => simp [intOf]; omega
            · have hz : Hid (j - k = 0) := Lib.hid (by omega)
              have hb : Hid (badK cn f j = false) := Lib.hid (by rw [hQ.out, HI.out, hz.out]; rfl)
              go_wp2_with fail
              go_roundw
              case rel => exact ⟨j + 1, by omega, by go_num, by rw [HE.out, hS.out, idx_go hb.out], z, rfl⟩
              case measure => simp [intOf]; omega
    · have hz : Hid (sn - j = 0) := Lib.hid (by omega)
      go_wp2_with fail
      go_ret
      exact ⟨ret_bool (by show decide (0 < sn) = keyB cn f sn; rw [keyB_end (by rw [HE.out, hz.out]; rfl)]), Cls.of (HB0.out.trans (x.below.mono (by omega)))⟩
end Go.Proofs.YtpddkljedhghkaaDoor
set_option linter.unusedVariables false
namespace Go.Proofs.YtpddkljedhghkaaDoor
open Go Go.RowKit Go.Deep
def wordsB : List ByteArray := [⟨#[115, 101, 108, 101, 99, 116]⟩, ⟨#[100, 105, 115, 116, 105, 110, 99, 116]⟩, ⟨#[97, 108, 108]⟩, ⟨#[102, 114, 111, 109]⟩, ⟨#[119, 104, 101, 114, 101]⟩, ⟨#[103, 114, 111, 117, 112]⟩, ⟨#[98, 121]⟩, ⟨#[104, 97, 118, 105, 110, 103]⟩, ⟨#[97, 115]⟩, ⟨#[111, 110]⟩, ⟨#[117, 110, 105, 111, 110]⟩, ⟨#[101, 120, 99, 101, 112, 116]⟩, ⟨#[105, 110, 116, 101, 114, 115, 101, 99, 116]⟩, ⟨#[106, 111, 105, 110]⟩, ⟨#[105, 110, 110, 101, 114]⟩, ⟨#[108, 101, 102, 116]⟩, ⟨#[114, 105, 103, 104, 116]⟩, ⟨#[102, 117, 108, 108]⟩, ⟨#[99, 114, 111, 115, 115]⟩, ⟨#[115, 101, 109, 105]⟩, ⟨#[97, 110, 116, 105]⟩, ⟨#[97, 110, 100]⟩, ⟨#[111, 114]⟩, ⟨#[110, 111, 116]⟩, ⟨#[105, 115]⟩, ⟨#[110, 117, 108, 108]⟩, ⟨#[116, 114, 117, 101]⟩, ⟨#[102, 97, 108, 115, 101]⟩, ⟨#[105, 110]⟩, ⟨#[99, 97, 115, 101]⟩, ⟨#[119, 104, 101, 110]⟩, ⟨#[116, 104, 101, 110]⟩, ⟨#[101, 108, 115, 101]⟩, ⟨#[101, 110, 100]⟩, ⟨#[118, 97, 108, 117, 101, 115]⟩, ⟨#[116, 97, 98, 108, 101]⟩, ⟨#[112, 114, 105, 109, 97, 114, 121]⟩, ⟨#[117, 110, 105, 113, 117, 101]⟩, ⟨#[102, 111, 114, 101, 105, 103, 110]⟩, ⟨#[114, 101, 102, 101, 114, 101, 110, 99, 101, 115]⟩, ⟨#[99, 104, 101, 99, 107]⟩, ⟨#[105, 110, 116]⟩, ⟨#[98, 111, 111, 108]⟩, ⟨#[116, 101, 120, 116]⟩, ⟨#[99, 111, 117, 110, 116]⟩, ⟨#[115, 117, 109]⟩, ⟨#[109, 105, 110]⟩, ⟨#[109, 97, 120]⟩, ⟨#[99, 111, 97, 108, 101, 115, 99, 101]⟩, ⟨#[108, 101, 110, 103, 116, 104]⟩, ⟨#[115, 97, 109, 101]⟩, ⟨#[109, 111, 100]⟩]
def words : List (List UInt8) := [[115, 101, 108, 101, 99, 116], [100, 105, 115, 116, 105, 110, 99, 116], [97, 108, 108], [102, 114, 111, 109], [119, 104, 101, 114, 101], [103, 114, 111, 117, 112], [98, 121], [104, 97, 118, 105, 110, 103], [97, 115], [111, 110], [117, 110, 105, 111, 110], [101, 120, 99, 101, 112, 116], [105, 110, 116, 101, 114, 115, 101, 99, 116], [106, 111, 105, 110], [105, 110, 110, 101, 114], [108, 101, 102, 116], [114, 105, 103, 104, 116], [102, 117, 108, 108], [99, 114, 111, 115, 115], [115, 101, 109, 105], [97, 110, 116, 105], [97, 110, 100], [111, 114], [110, 111, 116], [105, 115], [110, 117, 108, 108], [116, 114, 117, 101], [102, 97, 108, 115, 101], [105, 110], [99, 97, 115, 101], [119, 104, 101, 110], [116, 104, 101, 110], [101, 108, 115, 101], [101, 110, 100], [118, 97, 108, 117, 101, 115], [116, 97, 98, 108, 101], [112, 114, 105, 109, 97, 114, 121], [117, 110, 105, 113, 117, 101], [102, 111, 114, 101, 105, 103, 110], [114, 101, 102, 101, 114, 101, 110, 99, 101, 115], [99, 104, 101, 99, 107], [105, 110, 116], [98, 111, 111, 108], [116, 101, 120, 116], [99, 111, 117, 110, 116], [115, 117, 109], [109, 105, 110], [109, 97, 120], [99, 111, 97, 108, 101, 115, 99, 101], [108, 101, 110, 103, 116, 104], [115, 97, 109, 101], [109, 111, 100]]
/-- Is it a reserved word? -/
def resB (s : ByteArray) : Bool := words.any fun x => s.toList == x
def letB (c : Int) : Bool := decide (97 ≤ c) && decide (c ≤ 122)
def digB (c : Int) : Bool := decide (48 ≤ c) && decide (c ≤ 57)
def okB (c : UInt8) : Bool := letB c.toNat || digB c.toNat || ((c.toNat : Int) == 95)
/-- Is it a name? -/
def nameB (s : ByteArray) : Bool :=
  if s.size = 0 then false else if 16 < s.size then false else if letB ((s.data.toList.getD 0 0).toNat) = false then false
  else if (s.data.toList.drop 1).all okB = false then false else !resB s
set_option maxHeartbeats 2000000 in
set_option maxRecDepth 20000 in
theorem letter_calls (c : Int) (w : World) : Calls Tryd.prog 126 #[.int .u8 c] w fun e w' => e = .returned (.bool (letB c)) ∧ Cls w w' := by
  go_enter Tryd.func126, Tryd.ntmps126
  go_wp2_with fail
  all_goals
    go_ret
    refine ⟨ret_bool (by rw [Bool.eq_iff_iff]; simp [letB]; try omega), Cls.of ?_⟩
    repeat first | with_reducible exact Below.refl _ _ | with_reducible refine Below.setCell ?_ (by first | omega | (simp; done) | (simp; omega)) _ | with_reducible refine Below.alloc ?_ (by first | omega | (simp; done) | (simp; omega)) _ | with_reducible refine Below.drew ?_ | with_reducible refine Ext.on _ ?_ (by first | omega | (simp; done) | (simp; omega))
set_option maxHeartbeats 2000000 in
set_option maxRecDepth 20000 in
theorem digit_calls (c : Int) (w : World) : Calls Tryd.prog 127 #[.int .u8 c] w fun e w' => e = .returned (.bool (digB c)) ∧ Cls w w' := by
  go_enter Tryd.func127, Tryd.ntmps127
  go_wp2_with fail
  all_goals
    go_ret
    refine ⟨ret_bool (by rw [Bool.eq_iff_iff]; simp [digB]; try omega), Cls.of ?_⟩
    repeat first | with_reducible exact Below.refl _ _ | with_reducible refine Below.setCell ?_ (by first | omega | (simp; done) | (simp; omega)) _ | with_reducible refine Below.alloc ?_ (by first | omega | (simp; done) | (simp; omega)) _ | with_reducible refine Below.drew ?_ | with_reducible refine Ext.on _ ?_ (by first | omega | (simp; done) | (simp; omega))
set_option maxHeartbeats 8000000 in
set_option maxRecDepth 20000 in
theorem reserved_calls (s : ByteArray) (w : World) : Calls Tryd.prog 128 #[.string s] w fun e w' => e = .returned (.bool (resB s)) ∧ Cls w w' := by
  go_enter Tryd.func128, Tryd.ntmps128
  go_wp2_with fail
  all_goals first
    | (rename_i h1 h2; rw [h1] at h2; exact absurd h2 (by decide))
    | (go_ret
       refine ⟨ret_bool (by simp only [resB, words, List.any_cons, List.any_nil, Bool.true_or, Bool.or_true, Bool.or_false, *]), Cls.of ?_⟩
       repeat first | with_reducible exact Below.refl _ _ | with_reducible refine Below.setCell ?_ (by first | omega | (simp; done) | (simp; omega)) _ | with_reducible refine Below.alloc ?_ (by first | omega | (simp; done) | (simp; omega)) _ | with_reducible refine Below.drew ?_ | with_reducible refine Ext.on _ ?_ (by first | omega | (simp; done) | (simp; omega)))
end Go.Proofs.YtpddkljedhghkaaDoor
