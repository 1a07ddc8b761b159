/-
  Keys.
-/
import Derived.Test.YtdmhmlnfoocnjaaGreatDoorK10
import Derived.Test.YtdmhmlnfoocnjaaGreatDoorK12
import Derived.Test.YtdmhmlnfoocnjaaGreatDoorChecked
import Derived.Test.YtdmhmlnfoocnjaaGreatDoorK01
import Derived.Deep.Slices
import Derived.Deep.Strs
import Derived.ProofKit
import Derived.Lib.Strings
import Derived.Lib.Hide
import Derived.LoopTactic
import Derived.BigQuiet
import Derived.Deep.QuietTactic
set_option linter.unusedVariables false
namespace Go.Proofs.YtdmhmlnfoocnjaaGreatDoor
open Go Go.RowKit Go.Deep
theorem SlAt.take {w : World} {k : Nat} {s : Sl} {c : Nat → List Value} (h : SlAt w k s c) {i : Nat} (hi : i ≤ s.len) : SlAt w k ⟨s.a, i, s.cap⟩ c :=
  ⟨Nat.le_trans hi h.1, h.2.1, fun e => ⟨by have := (h.2.2.1 e).1; show i = 0; omega, (h.2.2.1 e).2⟩, fun j hj => h.2.2.2 j (Nat.lt_of_lt_of_le hj hi)⟩
def sameP (f : Nat → Int) (v : Int) (j : Nat) : Bool := v == f j
set_option maxHeartbeats 4000000 in
set_option maxRecDepth 20000 in
theorem indexI_calls (s : Sl) (f : Nat → Int) (v : Int) (w : World) (hs : SlAt w 1 s (intC f)) :
    Calls Tryz.prog 151 #[.slice s.a s.len s.cap, .int .i64 v] w fun r w' => r = .returned (.int .i64 (idx (sameP f v) 0 s.len)) ∧ Cls w w' := by
  have hle := hs.1
  have hmax := hs.2.1
  unfold maxLen at hmax
  have H := Lib.hid hs.2.2.2
  clear hs
  obtain ⟨sa, sn, sc⟩ := s
  simp only at hle hmax H
  go_enter Tryz.func151, Tryz.ntmps151
  go_wp2_with fail
  go_loopw [8] (fun i wr => ∃ j : Nat, j ≤ sn ∧ i = .int .i64 j ∧ idx (sameP f v) 0 sn = idx (sameP f v) j (sn - j) ∧ Cls w wr) (fun i _ => sn - (intOf i).toNat)
  case atStart => exact ⟨0, Nat.zero_le _, rfl, rfl, Cls.of (Below.refl _ _)⟩
  case round =>
    obtain ⟨j, hj, rfl, he, x, rfl⟩ := hrel
    have HE := Lib.hid he
    clear he
    have xs := x.size
    by_cases hltj : j < sn
    · obtain ⟨b, off, ha, hb2, hc⟩ := H.out j hltj
      subst ha
      have q0 := hc 0 (by omega)
      simp only [intC, List.getElem?_cons_zero, Nat.add_zero, Nat.mul_one] at q0
      have hS : Hid (sn - j = (sn - (j + 1)) + 1) := Lib.hid (by omega)
      have hP : Hid (sameP f v j = (v == f j)) := Lib.hid rfl
      clear hc
      generalize f j = u at q0 hP
      cases hbb : (v == u)
      all_goals
        have HB := Lib.hid hbb
        go_wp2_with fail
      · go_roundw
        case rel => exact ⟨j + 1, by omega, by go_num, by rw [HE.out, hS.out, idx_go (hP.out.trans HB.out)], x, rfl⟩
        case measure => simp [intOf]; omega
      · go_ret
        exact ⟨ret_int (by rw [HE.out, hS.out, idx_stop (hP.out.trans HB.out)]), x, rfl⟩
    · have hz : Hid (sn - j = 0) := Lib.hid (by omega)
      go_wp2_with fail
      go_ret
      exact ⟨ret_int (by rw [HE.out, hz.out]; rfl), x, rfl⟩
set_option maxHeartbeats 4000000 in
set_option maxRecDepth 20000 in
theorem containsI_calls (s : Sl) (f : Nat → Int) (v : Int) (w : World) (hs : SlAt w 1 s (intC f)) :
    Calls Tryz.prog 131 #[.slice s.a s.len s.cap, .int .i64 v] w fun r w' => r = .returned (.bool (decide (0 ≤ idx (sameP f v) 0 s.len))) ∧ Cls w w' := by
  have C1 := Lib.hid (indexI_calls s f v w hs)
  clear hs
  generalize idx (sameP f v) 0 s.len = n at C1 ⊢
  go_enter Tryz.func131, Tryz.ntmps131
  go_wp2_with (go_at_call 151; ((with_reducible refine C1.out.mono ?_); rintro r _ ⟨rfl, y, rfl⟩))
  go_ret
  exact ⟨ret_bool (by simp), y, rfl⟩
def badK (n : Nat) (f : Nat → Int) (i : Nat) : Bool := decide (f i < 0) || decide ((n : Int) ≤ f i) || decide (0 ≤ idx (sameP f (f i)) 0 i)
def keyB (n : Nat) (f : Nat → Int) (len : Nat) : Bool := decide (idx (badK n f) 0 len < 0) && decide (0 < len)
theorem keyB_no {n len : Nat} {f : Nat → Int} {j : Nat} (h : idx (badK n f) 0 len = (j : Nat)) : keyB n f len = false := by
  unfold keyB
  rw [h]
  have : decide (((j : Nat) : Int) < 0) = false := by simp
  rw [this, Bool.false_and]
theorem keyB_end {n len : Nat} {f : Nat → Int} (h : idx (badK n f) 0 len = -1) : keyB n f len = decide (0 < len) := by
  unfold keyB
  rw [h]
  simp
set_option maxHeartbeats 4000000 in
set_option maxRecDepth 20000 in
theorem isKey_calls (t : Tb) (s : Sl) (f : Nat → Int) (w : World) (hs : SlAt w 1 s (intC f)) (hc0 : t.cs.len ≤ maxLen) :
    Calls Tryz.prog 106 #[.agg #[.string t.name, .slice t.cs.a t.cs.len t.cs.cap, .slice t.ps.a t.ps.len t.ps.cap, .slice t.us.a t.us.len t.us.cap, .slice t.fs.a t.fs.len t.fs.cap, .slice t.ks.a t.ks.len t.ks.cap], .slice s.a s.len s.cap] w fun r w' => r = .returned (.bool (keyB t.cs.len f s.len)) ∧ Cls w w' := by
  have hle := hs.1
  have hmax := hs.2.1
  unfold maxLen at hmax hc0
  have H := Lib.hid hs
  clear hs
  obtain ⟨tn, ⟨ca, cn, cc⟩, tf, tps, tprim, tus, tuq, tuqn, tfs, tfk, tfkn, tfkt, tks, tch⟩ := t
  obtain ⟨sa, sn, sc⟩ := s
  simp only at hle hmax H hc0
  go_enter Tryz.func106, Tryz.ntmps106
  go_wp2_with fail
  have hbl : (w.alloc (.cells #[.string tn, .slice ca cn cc, .slice tps.a tps.len tps.cap, .slice tus.a tus.len tus.cap, .slice tfs.a tfs.len tfs.cap, .slice tks.a tks.len tks.cap] 55)).heap[w.heap.size]? = some (.cells #[.string tn, .slice ca cn cc, .slice tps.a tps.len tps.cap, .slice tus.a tus.len tus.cap, .slice tfs.a tfs.len tfs.cap, .slice tks.a tks.len tks.cap] 55) := heap_alloc_new w _
  have HBL := Lib.hid hbl
  have HB0 : Hid (Below w.heap.size w (w.alloc (.cells #[.string tn, .slice ca cn cc, .slice tps.a tps.len tps.cap, .slice tus.a tus.len tus.cap, .slice tfs.a tfs.len tfs.cap, .slice tks.a tks.len tks.cap] 55))) := Lib.hid (by repeat first|with_reducible exact Below.refl _ _|with_reducible refine Below.setCell ?_ (by first|omega|(simp;done)|(simp;omega)) _|with_reducible refine Below.alloc ?_ (by first|omega|(simp;done)|(simp;omega)) _|with_reducible refine Below.drew ?_|with_reducible refine Ext.on _ ?_ (by first|omega|(simp;done)|(simp;omega)))
  have h0s : (w.alloc (.cells #[.string tn, .slice ca cn cc, .slice tps.a tps.len tps.cap, .slice tus.a tus.len tus.cap, .slice tfs.a tfs.len tfs.cap, .slice tks.a tks.len tks.cap] 55)).heap.size = w.heap.size + 1 := by simp
  clear hbl
  generalize (w.alloc (.cells #[.string tn, .slice ca cn cc, .slice tps.a tps.len tps.cap, .slice tus.a tus.len tus.cap, .slice tfs.a tfs.len tfs.cap, .slice tks.a tks.len tks.cap] 55)) = W0 at *
  go_loopw [9] (fun i wr => ∃ j : Nat, j ≤ sn ∧ i = .int .i64 j ∧ idx (badK cn f) 0 sn = idx (badK cn f) j (sn - j) ∧ Cls W0 wr) (fun i _ => sn - (intOf i).toNat)
  case atStart => exact ⟨0, Nat.zero_le _, rfl, rfl, Cls.of (Below.refl _ _)⟩
  case round =>
    obtain ⟨j, hj, rfl, he, x, rfl⟩ := hrel
    have HE := Lib.hid he
    clear he
    have xs := x.size
    obtain ⟨b0, _, _, _, _, _, _, _, k1, _, _, _, _⟩ := six_z ((x.below.block _ (by omega)).trans HBL.out)
    by_cases hltj : j < sn
    · obtain ⟨b, off, ha, hb2, hc⟩ := H.out.2.2.2 j hltj
      simp only at ha
      subst ha
      have q0 := hc 0 (by omega)
      simp only [intC, List.getElem?_cons_zero, Nat.add_zero, Nat.mul_one] at q0
      rw [← (HB0.out.trans (x.below.mono (by omega))).cell (p := ⟨b, _, none⟩) hb2] at q0
      have hS : Hid (sn - j = (sn - (j + 1)) + 1) := Lib.hid (by omega)
      have hP : Hid (badK cn f j = (decide (f j < 0) || decide ((cn : Int) ≤ f j) || decide (0 ≤ idx (sameP f (f j)) 0 j))) := Lib.hid rfl
      have C1 : Hid (Calls Tryz.prog 131 #[.slice (some ⟨b, off, none⟩) j sc, .int .i64 (f j)] x.val fun r w' => r = .returned (.bool (decide (0 ≤ idx (sameP f (f j)) 0 j))) ∧ Cls x.val w') := Lib.hid (containsI_calls ⟨some ⟨b, off, none⟩, j, sc⟩ f (f j) x.val ((H.out.later (HB0.out.trans (x.below.mono (by omega)))).take (by show j ≤ sn; omega)))
      have hb3 : b < x.val.heap.size := by omega
      clear hc
      generalize f j = u at q0 hP C1
      by_cases h1 : u < 0
      · have d1 : decide (u < 0) = true := by simp; omega
        have hQ : Hid (badK cn f j = true) := Lib.hid (by rw [hP.out, d1]; simp)
        go_wp2_with fail
        go_ret
        exact ⟨ret_bool (by show false = keyB cn f sn; rw [keyB_no (j := j) (by rw [HE.out, hS.out, idx_stop hQ.out])]), Cls.of (HB0.out.trans (x.below.mono (by omega)))⟩
      · have d1 : decide (u < 0) = false := by simp; omega
        by_cases h2 : (cn : Int) ≤ u
        · have d2 : decide ((cn : Int) ≤ u) = true := by simp; omega
          have hQ : Hid (badK cn f j = true) := Lib.hid (by rw [hP.out, d2]; simp)
          go_wp2_with fail
          go_ret
          exact ⟨ret_bool (by show false = keyB cn f sn; rw [keyB_no (j := j) (by rw [HE.out, hS.out, idx_stop hQ.out])]), Cls.of (HB0.out.trans (x.below.mono (by omega)))⟩
        · have d2 : decide ((cn : Int) ≤ u) = false := by simp; omega
          have hQ : Hid (badK cn f j = decide (0 ≤ idx (sameP f u) 0 j)) := Lib.hid (by rw [hP.out, d1, d2]; simp)
          generalize decide (0 ≤ idx (sameP f u) 0 j) = bb at C1 hQ
          cases bb
          all_goals
            go_wp2_with (go_at_call 131; ((with_reducible refine C1.out.mono ?_); rintro r _ ⟨rfl, y, rfl⟩))
          · go_roundw
            case rel => exact ⟨j + 1, by omega, by go_num, by rw [HE.out, hS.out, idx_go hQ.out], Cls.of (x.below.trans (y.below.mono x.size))⟩
            case measure => simp [intOf]; omega
          · go_ret
            exact ⟨ret_bool (by show false = keyB cn f sn; rw [keyB_no (j := j) (by rw [HE.out, hS.out, idx_stop hQ.out])]), Cls.of (HB0.out.trans ((x.below.trans (y.below.mono x.size)).mono (by omega)))⟩
    · have hz : Hid (sn - j = 0) := Lib.hid (by omega)
      go_wp2_with fail
      go_ret
      exact ⟨ret_bool (by show decide (0 < sn) = keyB cn f sn; rw [keyB_end (by rw [HE.out, hz.out]; rfl)]), Cls.of (HB0.out.trans (x.below.mono (by omega)))⟩
end Go.Proofs.YtdmhmlnfoocnjaaGreatDoor
set_option linter.unusedVariables false
namespace Go.Proofs.YtdmhmlnfoocnjaaGreatDoor
open Go Go.RowKit Go.Deep
def wordsB : List ByteArray := [⟨#[115, 101, 108, 101, 99, 116]⟩, ⟨#[100, 105, 115, 116, 105, 110, 99, 116]⟩, ⟨#[97, 108, 108]⟩, ⟨#[102, 114, 111, 109]⟩, ⟨#[119, 104, 101, 114, 101]⟩, ⟨#[103, 114, 111, 117, 112]⟩, ⟨#[98, 121]⟩, ⟨#[104, 97, 118, 105, 110, 103]⟩, ⟨#[97, 115]⟩, ⟨#[111, 110]⟩, ⟨#[117, 110, 105, 111, 110]⟩, ⟨#[101, 120, 99, 101, 112, 116]⟩, ⟨#[105, 110, 116, 101, 114, 115, 101, 99, 116]⟩, ⟨#[106, 111, 105, 110]⟩, ⟨#[105, 110, 110, 101, 114]⟩, ⟨#[108, 101, 102, 116]⟩, ⟨#[114, 105, 103, 104, 116]⟩, ⟨#[102, 117, 108, 108]⟩, ⟨#[99, 114, 111, 115, 115]⟩, ⟨#[115, 101, 109, 105]⟩, ⟨#[97, 110, 116, 105]⟩, ⟨#[97, 110, 100]⟩, ⟨#[111, 114]⟩, ⟨#[110, 111, 116]⟩, ⟨#[105, 115]⟩, ⟨#[110, 117, 108, 108]⟩, ⟨#[116, 114, 117, 101]⟩, ⟨#[102, 97, 108, 115, 101]⟩, ⟨#[105, 110]⟩, ⟨#[99, 97, 115, 101]⟩, ⟨#[119, 104, 101, 110]⟩, ⟨#[116, 104, 101, 110]⟩, ⟨#[101, 108, 115, 101]⟩, ⟨#[101, 110, 100]⟩, ⟨#[118, 97, 108, 117, 101, 115]⟩, ⟨#[116, 97, 98, 108, 101]⟩, ⟨#[112, 114, 105, 109, 97, 114, 121]⟩, ⟨#[117, 110, 105, 113, 117, 101]⟩, ⟨#[102, 111, 114, 101, 105, 103, 110]⟩, ⟨#[114, 101, 102, 101, 114, 101, 110, 99, 101, 115]⟩, ⟨#[99, 104, 101, 99, 107]⟩, ⟨#[105, 110, 116]⟩, ⟨#[98, 111, 111, 108]⟩, ⟨#[116, 101, 120, 116]⟩, ⟨#[99, 111, 117, 110, 116]⟩, ⟨#[115, 117, 109]⟩, ⟨#[109, 105, 110]⟩, ⟨#[109, 97, 120]⟩, ⟨#[99, 111, 97, 108, 101, 115, 99, 101]⟩, ⟨#[108, 101, 110, 103, 116, 104]⟩, ⟨#[115, 97, 109, 101]⟩, ⟨#[109, 111, 100]⟩]
def words : List (List UInt8) := [[115, 101, 108, 101, 99, 116], [100, 105, 115, 116, 105, 110, 99, 116], [97, 108, 108], [102, 114, 111, 109], [119, 104, 101, 114, 101], [103, 114, 111, 117, 112], [98, 121], [104, 97, 118, 105, 110, 103], [97, 115], [111, 110], [117, 110, 105, 111, 110], [101, 120, 99, 101, 112, 116], [105, 110, 116, 101, 114, 115, 101, 99, 116], [106, 111, 105, 110], [105, 110, 110, 101, 114], [108, 101, 102, 116], [114, 105, 103, 104, 116], [102, 117, 108, 108], [99, 114, 111, 115, 115], [115, 101, 109, 105], [97, 110, 116, 105], [97, 110, 100], [111, 114], [110, 111, 116], [105, 115], [110, 117, 108, 108], [116, 114, 117, 101], [102, 97, 108, 115, 101], [105, 110], [99, 97, 115, 101], [119, 104, 101, 110], [116, 104, 101, 110], [101, 108, 115, 101], [101, 110, 100], [118, 97, 108, 117, 101, 115], [116, 97, 98, 108, 101], [112, 114, 105, 109, 97, 114, 121], [117, 110, 105, 113, 117, 101], [102, 111, 114, 101, 105, 103, 110], [114, 101, 102, 101, 114, 101, 110, 99, 101, 115], [99, 104, 101, 99, 107], [105, 110, 116], [98, 111, 111, 108], [116, 101, 120, 116], [99, 111, 117, 110, 116], [115, 117, 109], [109, 105, 110], [109, 97, 120], [99, 111, 97, 108, 101, 115, 99, 101], [108, 101, 110, 103, 116, 104], [115, 97, 109, 101], [109, 111, 100]]
def resB (s : ByteArray) : Bool := words.any fun x => s.toList == x
def letB (c : Int) : Bool := decide (97 ≤ c) && decide (c ≤ 122)
def digB (c : Int) : Bool := decide (48 ≤ c) && decide (c ≤ 57)
def okB (c : UInt8) : Bool := letB c.toNat || digB c.toNat || ((c.toNat : Int) == 95)
def nameB (s : ByteArray) : Bool :=
  if s.size = 0 then false else if 16 < s.size then false else if letB ((s.data.toList.getD 0 0).toNat) = false then false
  else if (s.data.toList.drop 1).all okB = false then false else !resB s
set_option maxHeartbeats 2000000 in
set_option maxRecDepth 20000 in
theorem letter_calls (c : Int) (w : World) : Calls Tryz.prog 102 #[.int .u8 c] w fun e w' => e = .returned (.bool (letB c)) ∧ Cls w w' := by
  go_enter Tryz.func102, Tryz.ntmps102
  go_wp2_with fail
  all_goals
    go_ret
    refine ⟨ret_bool (by rw [Bool.eq_iff_iff]; simp [letB]; try omega), Cls.of ?_⟩
    repeat first|with_reducible exact Below.refl _ _|with_reducible refine Below.setCell ?_ (by first|omega|(simp;done)|(simp;omega)) _|with_reducible refine Below.alloc ?_ (by first|omega|(simp;done)|(simp;omega)) _|with_reducible refine Below.drew ?_|with_reducible refine Ext.on _ ?_ (by first|omega|(simp;done)|(simp;omega))
set_option maxHeartbeats 2000000 in
set_option maxRecDepth 20000 in
theorem digit_calls (c : Int) (w : World) : Calls Tryz.prog 103 #[.int .u8 c] w fun e w' => e = .returned (.bool (digB c)) ∧ Cls w w' := by
  go_enter Tryz.func103, Tryz.ntmps103
  go_wp2_with fail
  all_goals
    go_ret
    refine ⟨ret_bool (by rw [Bool.eq_iff_iff]; simp [digB]; try omega), Cls.of ?_⟩
    repeat first|with_reducible exact Below.refl _ _|with_reducible refine Below.setCell ?_ (by first|omega|(simp;done)|(simp;omega)) _|with_reducible refine Below.alloc ?_ (by first|omega|(simp;done)|(simp;omega)) _|with_reducible refine Below.drew ?_|with_reducible refine Ext.on _ ?_ (by first|omega|(simp;done)|(simp;omega))
set_option maxHeartbeats 8000000 in
set_option maxRecDepth 20000 in
theorem reserved_calls (s : ByteArray) (w : World) : Calls Tryz.prog 104 #[.string s] w fun e w' => e = .returned (.bool (resB s)) ∧ Cls w w' := by
  go_enter Tryz.func104, Tryz.ntmps104
  go_wp2_with fail
  all_goals first
    | (rename_i h1 h2; rw [h1] at h2; exact absurd h2 (by decide))
    | (go_ret
       refine ⟨ret_bool (by simp only [resB, words, List.any_cons, List.any_nil, Bool.true_or, Bool.or_true, Bool.or_false, *]), Cls.of ?_⟩
       repeat first|with_reducible exact Below.refl _ _|with_reducible refine Below.setCell ?_ (by first|omega|(simp;done)|(simp;omega)) _|with_reducible refine Below.alloc ?_ (by first|omega|(simp;done)|(simp;omega)) _|with_reducible refine Below.drew ?_|with_reducible refine Ext.on _ ?_ (by first|omega|(simp;done)|(simp;omega)))
end Go.Proofs.YtdmhmlnfoocnjaaGreatDoor
set_option linter.unusedVariables false
namespace Go.Proofs.YtdmhmlnfoocnjaaGreatDoor
open Go Go.RowKit Go.Deep
theorem words_eq : words = wordsB.map fun b => b.toList := by simp [words, wordsB, Lib.toList_data]
theorem resB_eq (s : ByteArray) : resB s = (wordsB.drop 0).any fun x => x.toList == s.toList := by
  unfold resB
  rw [words_eq, List.any_map, List.drop_zero]
  congr 1
  funext x
  simp [Function.comp, Bool.beq_comm]
theorem dropW {j : Nat} (h : j < 52) : wordsB.drop j = wordsB.getD j ByteArray.empty :: wordsB.drop (j + 1) := by
  have hl : j < wordsB.length := h
  rw [List.drop_eq_getElem_cons hl]; simp [List.getD, hl]
set_option maxHeartbeats 2000000 in
set_option maxRecDepth 20000 in
theorem Reserved_calls (w : World) : Calls Tryz.prog 63 #[] w fun e w' => ∃ b, e = .returned (.slice (some ⟨b, 0, none⟩) 52 52) ∧ b < w'.heap.size ∧ (∀ i, i < 52 → w'.cell? ⟨b, i, none⟩ = some (.string (wordsB.getD i ByteArray.empty))) ∧ Cls w w' := by
  go_enter Tryz.func63, Tryz.ntmps63
  go_wp2_with fail
  go_ret
  refine ⟨w.heap.size, rfl, by simp, fun i hi => ?_, Cls.of ?_⟩
  · have e := cell_of_row (w.alloc (.cells (wordsB.map Value.string).toArray 9)) w.heap.size i (wordsB.map Value.string).toArray 9 (0, 0) (heap_alloc_new w _)
    refine Eq.trans ?_ (e.trans ?_)
    · rfl
    · have hl : i < wordsB.length := hi
      simp [List.getD, hl]
  · repeat first|with_reducible exact Below.refl _ _|with_reducible refine Below.setCell ?_ (by first|omega|(simp;done)|(simp;omega)) _|with_reducible refine Below.alloc ?_ (by first|omega|(simp;done)|(simp;omega)) _|with_reducible refine Below.drew ?_|with_reducible refine Ext.on _ ?_ (by first|omega|(simp;done)|(simp;omega))
theorem toList_len (s : ByteArray) : s.toList.length = s.size := by rw [Lib.toList_data, Array.length_toList]; rfl
theorem empty_no {s : ByteArray} (h : ¬ s.size = 0) : s.toList.isEmpty = false := by
  rw [List.isEmpty_eq_false_iff]
  intro e
  have := congrArg List.length e
  rw [toList_len] at this
  exact h this
theorem empty_yes {s : ByteArray} (h : s.size = 0) : s.toList.isEmpty = true := by
  rw [List.isEmpty_iff]
  apply List.eq_nil_of_length_eq_zero
  rw [toList_len, h]
theorem getD_at {s : ByteArray} {i : Nat} (h : i < s.size) : s.data.toList.getD i 0 = s[i] := by
  have h2 : i < s.data.size := h
  rw [List.getD_eq_getElem?_getD, Array.getElem?_toList, Array.getElem?_eq_getElem h2]
  rfl
theorem dropB {s : ByteArray} {j : Nat} (h : j < s.size) : s.data.toList.drop j = s[j] :: s.data.toList.drop (j + 1) := by
  have h' : j < s.data.toList.length := by rw [Array.length_toList]; exact h
  rw [List.drop_eq_getElem_cons h']; simp; rfl
theorem okB_iff (c : UInt8) : okB c = true ↔ ((97 : Int) ≤ c.toNat ∧ (c.toNat : Int) ≤ 122) ∨ ((48 : Int) ≤ c.toNat ∧ (c.toNat : Int) ≤ 57) ∨ (c.toNat : Int) = 95 := by
  unfold okB letB digB
  simp [or_assoc]
def restB (s : ByteArray) (j : Nat) : Bool := (s.data.toList.drop j).all okB
theorem restB_go {s : ByteArray} {j : Nat} (h : j < s.size) : restB s j = (okB s[j] && restB s (j + 1)) := by
  unfold restB; rw [dropB h, List.all_cons]
theorem restB_end {s : ByteArray} {j : Nat} (h : s.size ≤ j) : restB s j = true := by
  unfold restB; rw [List.drop_of_length_le (by rw [Array.length_toList]; exact h)]; rfl
set_option maxHeartbeats 4000000 in
set_option maxRecDepth 20000 in
theorem Name_calls (s : ByteArray) (w : World) (hs : s.size ≤ maxLen) : Calls Tryz.prog 73 #[.string s] w fun e w' => e = .returned (.bool (nameB s)) ∧ Cls w w' := by
  unfold maxLen at hs
  by_cases h0 : s.size = 0
  · have HR : Hid (nameB s = false) := Lib.hid (by unfold nameB; rw [if_pos h0])
    have e1 := empty_yes h0
    clear h0
    go_enter Tryz.func73, Tryz.ntmps73
    go_wp2_with fail
    all_goals
      go_ret
      refine ⟨ret_bool HR.out.symm, Cls.of ?_⟩
      repeat first|with_reducible exact Below.refl _ _|with_reducible refine Below.setCell ?_ (by first|omega|(simp;done)|(simp;omega)) _|with_reducible refine Below.alloc ?_ (by first|omega|(simp;done)|(simp;omega)) _|with_reducible refine Below.drew ?_|with_reducible refine Ext.on _ ?_ (by first|omega|(simp;done)|(simp;omega))
  · have e1 := empty_no h0
    have h1 : 0 < s.size := by omega
    by_cases h16 : 16 < s.size
    · have HR : Hid (nameB s = false) := Lib.hid (by unfold nameB; rw [if_neg h0, if_pos h16])
      have d1 : decide (16 < (s.size : Int)) = true := by simp; omega
      clear h0 h16
      go_enter Tryz.func73, Tryz.ntmps73
      go_wp2_with fail
      all_goals
        go_ret
        refine ⟨ret_bool HR.out.symm, Cls.of ?_⟩
        repeat first|with_reducible exact Below.refl _ _|with_reducible refine Below.setCell ?_ (by first|omega|(simp;done)|(simp;omega)) _|with_reducible refine Below.alloc ?_ (by first|omega|(simp;done)|(simp;omega)) _|with_reducible refine Below.drew ?_|with_reducible refine Ext.on _ ?_ (by first|omega|(simp;done)|(simp;omega))
    · have d1 : decide (16 < (s.size : Int)) = false := by simp; omega
      cases hb : letB s[0].toNat
      · have HR : Hid (nameB s = false) := Lib.hid (by unfold nameB; rw [if_neg h0, if_neg h16, getD_at h1, if_pos hb])
        clear h0 h16
        go_enter Tryz.func73, Tryz.ntmps73
        go_wp2_with (go_at_call 102; ((with_reducible refine (letter_calls _ _).mono ?_); rintro r _ ⟨rfl, y, rfl⟩))
        all_goals
          go_ret
          refine ⟨ret_bool HR.out.symm, Cls.of ?_⟩
          repeat first|with_reducible exact Below.refl _ _|with_reducible refine Below.setCell ?_ (by first|omega|(simp;done)|(simp;omega)) _|with_reducible refine Below.alloc ?_ (by first|omega|(simp;done)|(simp;omega)) _|with_reducible refine Below.drew ?_|with_reducible refine Ext.on _ ?_ (by first|omega|(simp;done)|(simp;omega))
      · have HR : Hid (nameB s = if restB s 1 = false then false else !resB s) := Lib.hid (by unfold nameB restB; rw [if_neg h0, if_neg h16, getD_at h1, if_neg (by rw [hb]; decide)])
        clear h0 h16
        go_enter Tryz.func73, Tryz.ntmps73
        go_wp2_with (go_at_call 102; ((with_reducible refine (letter_calls _ _).mono ?_); rintro r _ ⟨rfl, y, rfl⟩))
        go_loopw [3] (fun i wr => ∃ j : Nat, 1 ≤ j ∧ j ≤ s.size ∧ i = .int .i64 j ∧ restB s 1 = restB s j ∧ Cls w wr) (fun i _ => s.size - (intOf i).toNat)
        case atStart => exact ⟨1, Nat.le_refl _, by omega, rfl, rfl, y, rfl⟩
        case round =>
          obtain ⟨j, hj1, hj, rfl, he, x, rfl⟩ := hrel
          by_cases hlt : j < s.size
          · have HG : Hid (restB s 1 = (okB s[j] && restB s (j + 1))) := Lib.hid (by rw [he, restB_go hlt])
            have HOK : Hid (okB s[j] = (letB s[j].toNat || digB s[j].toNat || ((s[j].toNat : Int) == 95))) := Lib.hid rfl
            clear he
            cases b1 : letB s[j].toNat <;> cases b2 : digB s[j].toNat <;> cases b3 : ((s[j].toNat : Int) == 95)
            all_goals
              have b4 : ((s[j].toNat : Int) != 95) = !((s[j].toNat : Int) == 95) := rfl
              rw [b3] at b4
              rw [b1, b2, b3] at HOK
              go_wp2_with (first | (go_at_call 102; ((with_reducible refine (Cls.call (letter_calls _ _)).mono ?_); rintro r _ ⟨rfl, y1, rfl⟩)) | (go_at_call 103; ((with_reducible refine (Cls.call (digit_calls _ _)).mono ?_); rintro r _ ⟨rfl, y2, rfl⟩)))
              all_goals first
                | (go_ret
                   refine ⟨ret_bool (by rw [HR.out, HG.out, HOK.out]; rfl), Cls.of ?_⟩
                   repeat first|with_reducible exact Below.refl _ _|with_reducible refine Below.setCell ?_ (by first|omega|(simp;done)|(simp;omega)) _|with_reducible refine Below.alloc ?_ (by first|omega|(simp;done)|(simp;omega)) _|with_reducible refine Below.drew ?_|with_reducible refine Ext.on _ ?_ (by first|omega|(simp;done)|(simp;omega)))
                | (go_roundw
                   case rel =>
                     refine ⟨j + 1, by omega, by omega, by go_num, by rw [HG.out, HOK.out]; simp, Cls.of ?_⟩
                     repeat first|with_reducible exact Below.refl _ _|with_reducible refine Below.setCell ?_ (by first|omega|(simp;done)|(simp;omega)) _|with_reducible refine Below.alloc ?_ (by first|omega|(simp;done)|(simp;omega)) _|with_reducible refine Below.drew ?_|with_reducible refine Ext.on _ ?_ (by first|omega|(simp;done)|(simp;omega))
                   case measure => simp [intOf]; omega)
          · have HE : Hid (restB s 1 = true) := Lib.hid (by rw [he, restB_end (by omega)])
            clear he
            go_wp2_with (first | (go_at_call 104; ((with_reducible refine (Cls.call (reserved_calls _ _)).mono ?_); rintro r _ ⟨rfl, y1, rfl⟩)))
            go_ret
            refine ⟨ret_bool (by rw [HR.out, HE.out]; simp), Cls.of ?_⟩
            repeat first|with_reducible exact Below.refl _ _|with_reducible refine Below.setCell ?_ (by first|omega|(simp;done)|(simp;omega)) _|with_reducible refine Below.alloc ?_ (by first|omega|(simp;done)|(simp;omega)) _|with_reducible refine Below.drew ?_|with_reducible refine Ext.on _ ?_ (by first|omega|(simp;done)|(simp;omega))
set_option maxHeartbeats 4000000 in
set_option maxRecDepth 20000 in
theorem rName_calls (s : ByteArray) (w : World) (hs : s.size ≤ maxLen) : Calls Tryz.prog 34 #[.string s] w fun e w' => e = .returned (.bool (nameB s)) ∧ Cls w w' := by
  unfold maxLen at hs
  by_cases h0 : s.size = 0
  · have HR : Hid (nameB s = false) := Lib.hid (by unfold nameB; rw [if_pos h0])
    have d0 : decide ((s.size : Int) < 1) = true := by simp; omega
    clear h0
    go_enter Tryz.func34, Tryz.ntmps34
    go_wp2_with fail
    all_goals
      go_ret
      refine ⟨ret_bool HR.out.symm, Cls.of ?_⟩
      repeat first|with_reducible exact Below.refl _ _|with_reducible refine Below.setCell ?_ (by first|omega|(simp;done)|(simp;omega)) _|with_reducible refine Below.alloc ?_ (by first|omega|(simp;done)|(simp;omega)) _|with_reducible refine Below.drew ?_|with_reducible refine Ext.on _ ?_ (by first|omega|(simp;done)|(simp;omega))
  · have d0 : decide ((s.size : Int) < 1) = false := by simp; omega
    have h1 : 0 < s.size := by omega
    by_cases h16 : 16 < s.size
    · have HR : Hid (nameB s = false) := Lib.hid (by unfold nameB; rw [if_neg h0, if_pos h16])
      have d1 : decide (16 < (s.size : Int)) = true := by simp; omega
      clear h0 h16
      go_enter Tryz.func34, Tryz.ntmps34
      go_wp2_with fail
      all_goals
        go_ret
        refine ⟨ret_bool HR.out.symm, Cls.of ?_⟩
        repeat first|with_reducible exact Below.refl _ _|with_reducible refine Below.setCell ?_ (by first|omega|(simp;done)|(simp;omega)) _|with_reducible refine Below.alloc ?_ (by first|omega|(simp;done)|(simp;omega)) _|with_reducible refine Below.drew ?_|with_reducible refine Ext.on _ ?_ (by first|omega|(simp;done)|(simp;omega))
    · have d1 : decide (16 < (s.size : Int)) = false := by simp; omega
      by_cases hb : (97 : Int) ≤ (s[0].toNat : Int) ∧ (s[0].toNat : Int) ≤ 122
      · have hok : letB s[0].toNat = true := by simp [letB, hb.1, hb.2]
        have HR : Hid (nameB s = if restB s 0 = false then false else !resB s) := Lib.hid (by
          unfold nameB
          rw [if_neg h0, if_neg h16, getD_at h1, if_neg (by rw [hok]; decide), restB_go h1]
          have : okB s[0] = true := by unfold okB; rw [hok]; rfl
          rw [this]; rfl)
        obtain ⟨hb1, hb2⟩ := hb
        clear h0 h16 hok
        go_enter Tryz.func34, Tryz.ntmps34
        go_wp2_with fail
        go_loopw [3] (fun i wr => ∃ j : Nat, j ≤ s.size ∧ i = .int .i64 j ∧ restB s 0 = restB s j ∧ Cls w wr) (fun i _ => s.size - (intOf i).toNat)
        case atStart => exact ⟨0, by omega, rfl, rfl, Cls.of (Below.refl _ _)⟩
        case round =>
          obtain ⟨j, hj, rfl, he, x, rfl⟩ := hrel
          by_cases hlt : j < s.size
          · have HG : Hid (restB s 0 = (okB s[j] && restB s (j + 1))) := Lib.hid (by rw [he, restB_go hlt])
            have HOK : Hid (okB s[j] = (letB s[j].toNat || digB s[j].toNat || ((s[j].toNat : Int) == 95))) := Lib.hid rfl
            clear he
            go_wp2_with fail
            all_goals first
              | (go_ret
                 have hn : okB s[j] = false := by
                   rw [Bool.eq_false_iff, ne_eq, okB_iff]
                   try simp only [bne_iff_ne, ne_eq] at *
                   omega
                 refine ⟨ret_bool (by rw [HR.out, HG.out, hn]; rfl), Cls.of ?_⟩
                 repeat first|with_reducible exact Below.refl _ _|with_reducible refine Below.setCell ?_ (by first|omega|(simp;done)|(simp;omega)) _|with_reducible refine Below.alloc ?_ (by first|omega|(simp;done)|(simp;omega)) _|with_reducible refine Below.drew ?_|with_reducible refine Ext.on _ ?_ (by first|omega|(simp;done)|(simp;omega)))
              | (have hn : okB s[j] = true := by
                   rw [okB_iff]
                   try simp only [bne_eq_false_iff_eq] at *
                   omega
                 have HN := Lib.hid hn
                 clear hn
                 go_roundw
                 case rel =>
                   refine ⟨j + 1, by omega, by go_num, by rw [HG.out, HN.out]; rfl, Cls.of ?_⟩
                   repeat first|with_reducible exact Below.refl _ _|with_reducible refine Below.setCell ?_ (by first|omega|(simp;done)|(simp;omega)) _|with_reducible refine Below.alloc ?_ (by first|omega|(simp;done)|(simp;omega)) _|with_reducible refine Below.drew ?_|with_reducible refine Ext.on _ ?_ (by first|omega|(simp;done)|(simp;omega))
                 case measure => simp [intOf]; omega)
          · have HE : Hid (restB s 0 = true) := Lib.hid (by rw [he, restB_end (by omega)])
            clear he
            go_wp2_with (go_at_call 63; ((with_reducible refine (Reserved_calls _).mono ?_); rintro r w2 hq; obtain ⟨b, rfl, hb, hcell, y, rfl⟩ := hq; have HC := Lib.hid hcell; clear hcell))
            go_loopw [5] (fun i wr => ∃ j : Nat, j ≤ 52 ∧ i = .int .i64 j ∧ resB s = ((wordsB.drop j).any fun x => x.toList == s.toList) ∧ Cls y.val wr) (fun i _ => 52 - (intOf i).toNat)
            case atStart => exact ⟨0, by omega, rfl, resB_eq s, Cls.of (Below.refl _ _)⟩
            case round =>
              obtain ⟨j, hj, rfl, he, z, rfl⟩ := hrel
              have HD := Lib.hid he
              clear he
              by_cases hlt : j < 52
              · have q := HC.out j hlt
                generalize hx : wordsB.getD j ByteArray.empty = x0 at q
                have HX := Lib.hid hx
                clear hx
                cases hc : x0.toList == s.toList
                · have HB := Lib.hid hc
                  go_wp2_with fail
                  go_roundw
                  case rel =>
                    refine ⟨j + 1, by omega, by go_num, by rw [HD.out, dropW hlt, List.any_cons, HX.out, HB.out]; rfl, Cls.of ?_⟩
                    repeat first|with_reducible exact Below.refl _ _|with_reducible refine Below.setCell ?_ (by first|omega|(simp;done)|(simp;omega)) _|with_reducible refine Below.alloc ?_ (by first|omega|(simp;done)|(simp;omega)) _|with_reducible refine Below.drew ?_|with_reducible refine Ext.on _ ?_ (by first|omega|(simp;done)|(simp;omega))
                  case measure => simp [intOf]; omega
                · have HB := Lib.hid hc
                  go_wp2_with fail
                  go_ret
                  have hres : resB s = true := by rw [HD.out, dropW hlt, List.any_cons, HX.out, HB.out]; rfl
                  have sx := x.size
                  have sy := y.size
                  refine ⟨ret_bool (by rw [HR.out, HE.out, hres]; rfl), Cls.of ?_⟩
                  repeat first|with_reducible exact Below.refl _ _|with_reducible refine Below.setCell ?_ (by first|omega|(simp;done)|(simp;omega)) _|with_reducible refine Below.alloc ?_ (by first|omega|(simp;done)|(simp;omega)) _|with_reducible refine Below.drew ?_|with_reducible refine Ext.on _ ?_ (by first|omega|(simp;done)|(simp;omega))
              · go_wp2_with fail
                go_ret
                have hres : resB s = false := by
                  rw [HD.out, List.drop_of_length_le (by show 52 ≤ j; omega)]; rfl
                have sx := x.size
                have sy := y.size
                refine ⟨ret_bool (by rw [HR.out, HE.out, hres]; rfl), Cls.of ?_⟩
                repeat first|with_reducible exact Below.refl _ _|with_reducible refine Below.setCell ?_ (by first|omega|(simp;done)|(simp;omega)) _|with_reducible refine Below.alloc ?_ (by first|omega|(simp;done)|(simp;omega)) _|with_reducible refine Below.drew ?_|with_reducible refine Ext.on _ ?_ (by first|omega|(simp;done)|(simp;omega))
      · have hok : letB s[0].toNat = false := by
          rw [Bool.eq_false_iff]; intro e; apply hb; simpa [letB] using e
        have HR : Hid (nameB s = false) := Lib.hid (by unfold nameB; rw [if_neg h0, if_neg h16, getD_at h1, if_pos hok])
        clear h0 h16 hok
        go_enter Tryz.func34, Tryz.ntmps34
        go_wp2_with fail
        all_goals first
          | (exfalso; omega)
          | (go_ret
             refine ⟨ret_bool HR.out.symm, Cls.of ?_⟩
             repeat first|with_reducible exact Below.refl _ _|with_reducible refine Below.setCell ?_ (by first|omega|(simp;done)|(simp;omega)) _|with_reducible refine Below.alloc ?_ (by first|omega|(simp;done)|(simp;omega)) _|with_reducible refine Below.drew ?_|with_reducible refine Ext.on _ ?_ (by first|omega|(simp;done)|(simp;omega)))
end Go.Proofs.YtdmhmlnfoocnjaaGreatDoor
