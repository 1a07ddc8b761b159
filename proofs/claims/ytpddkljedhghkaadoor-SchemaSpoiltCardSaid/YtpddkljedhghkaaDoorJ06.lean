/-
  Which strings are names, for both Names and all strings. The first column with a name: the program's search and the reference's.
-/
import Derived.Test.YtpddkljedhghkaaDoorJ05
import Derived.Test.YtpddkljedhghkaaDoorJ02
set_option linter.unusedVariables false
namespace Go.Proofs.YtpddkljedhghkaaDoor
open Go Go.RowKit Go.Deep
theorem words_eq : words = wordsB.map fun b => b.toList := by simp [words, wordsB, Lib.toList_data]
theorem resB_eq (s : ByteArray) : resB s = (wordsB.drop 0).any fun x => x.toList == s.toList := by
  unfold resB
  rw [words_eq, List.any_map, List.drop_zero]
  congr 1
  funext x
  simp [Function.comp, Bool.beq_comm]
theorem dropW {j : Nat} (h : j < 52) : wordsB.drop j = wordsB.getD j ByteArray.empty :: wordsB.drop (j + 1) := by
  have hl : j < wordsB.length := h
  rw [List.drop_eq_getElem_cons hl]; simp [List.getD, hl]
set_option maxHeartbeats 2000000 in
set_option maxRecDepth 20000 in
theorem Reserved_calls (w : World) : Calls Tryd.prog 105 #[] w fun e w' => ∃ b, e = .returned (.slice (some ⟨b, 0, none⟩) 52 52) ∧ b < w'.heap.size ∧ (∀ i, i < 52 → w'.cell? ⟨b, i, none⟩ = some (.string (wordsB.getD i ByteArray.empty))) ∧ Cls w w' := by
  go_enter Tryd.func105, Tryd.ntmps105
  go_wp2_with fail
  go_ret
  refine ⟨w.heap.size, rfl, by simp, fun i hi => ?_, Cls.of ?_⟩
  · have e := cell_of_row (w.alloc (.cells (wordsB.map Value.string).toArray 9)) w.heap.size i (wordsB.map Value.string).toArray 9 (0, 0) (heap_alloc_new w _)
    refine Eq.trans ?_ (e.trans ?_)
    · rfl
    · have hl : i < wordsB.length := hi
      simp [List.getD, hl]
  · repeat first | with_reducible exact Below.refl _ _ | with_reducible refine Below.setCell ?_ (by first | omega | (simp; done) | (simp; omega)) _ | with_reducible refine Below.alloc ?_ (by first | omega | (simp; done) | (simp; omega)) _ | with_reducible refine Below.drew ?_ | with_reducible refine Ext.on _ ?_ (by first | omega | (simp; done) | (simp; omega))
theorem toList_len (s : ByteArray) : s.toList.length = s.size := by rw [Lib.toList_data, Array.length_toList]; rfl
theorem empty_no {s : ByteArray} (h : ¬ s.size = 0) : s.toList.isEmpty = false := by
  rw [List.isEmpty_eq_false_iff]
  intro e
  have := congrArg List.length e
  rw [toList_len] at this
  exact h this
theorem empty_yes {s : ByteArray} (h : s.size = 0) : s.toList.isEmpty = true := by
  rw [List.isEmpty_iff]
  apply List.eq_nil_of_length_eq_zero
  rw [toList_len, h]
theorem getD_at {s : ByteArray} {i : Nat} (h : i < s.size) : s.data.toList.getD i 0 = s[i] := by
  have h2 : i < s.data.size := h
  rw [List.getD_eq_getElem?_getD, Array.getElem?_toList, Array.getElem?_eq_getElem h2]
  rfl
theorem dropB {s : ByteArray} {j : Nat} (h : j < s.size) : s.data.toList.drop j = s[j] :: s.data.toList.drop (j + 1) := by
  have h' : j < s.data.toList.length := by rw [Array.length_toList]; exact h
  rw [List.drop_eq_getElem_cons h']; simp; rfl
theorem okB_iff (c : UInt8) : okB c = true ↔ ((97 : Int) ≤ c.toNat ∧ (c.toNat : Int) ≤ 122) ∨ ((48 : Int) ≤ c.toNat ∧ (c.toNat : Int) ≤ 57) ∨ (c.toNat : Int) = 95 := by
  unfold okB letB digB
  simp [or_assoc]
def restB (s : ByteArray) (j : Nat) : Bool := (s.data.toList.drop j).all okB
theorem restB_go {s : ByteArray} {j : Nat} (h : j < s.size) : restB s j = (okB s[j] && restB s (j + 1)) := by
  unfold restB; rw [dropB h, List.all_cons]
theorem restB_end {s : ByteArray} {j : Nat} (h : s.size ≤ j) : restB s j = true := by
  unfold restB; rw [List.drop_of_length_le (by rw [Array.length_toList]; exact h)]; rfl
set_option maxHeartbeats 4000000 in
set_option maxRecDepth 20000 in
theorem Name_calls (s : ByteArray) (w : World) (hs : s.size ≤ maxLen) : Calls Tryd.prog 97 #[.string s] w fun e w' => e = .returned (.bool (nameB s)) ∧ Cls w w' := by
  unfold maxLen at hs
  by_cases h0 : s.size = 0
  · have HR : Hid (nameB s = false) := Lib.hid (by unfold nameB; rw [if_pos h0])
    have e1 := empty_yes h0
    clear h0
    go_enter Tryd.func97, Tryd.ntmps97
    go_wp2_with fail
    all_goals
      go_ret
      refine ⟨ret_bool HR.out.symm, Cls.of ?_⟩
      repeat first | with_reducible exact Below.refl _ _ | with_reducible refine Below.setCell ?_ (by first | omega | (simp; done) | (simp; omega)) _ | with_reducible refine Below.alloc ?_ (by first | omega | (simp; done) | (simp; omega)) _ | with_reducible refine Below.drew ?_ | with_reducible refine Ext.on _ ?_ (by first | omega | (simp; done) | (simp; omega))
  · have e1 := empty_no h0
    have h1 : 0 < s.size := by omega
    by_cases h16 : 16 < s.size
    · have HR : Hid (nameB s = false) := Lib.hid (by unfold nameB; rw [if_neg h0, if_pos h16])
      have d1 : decide (16 < (s.size : Int)) = true := by simp; omega
      clear h0 h16
      go_enter Tryd.func97, Tryd.ntmps97
      go_wp2_with fail
      all_goals
        go_ret
        refine ⟨ret_bool HR.out.symm, Cls.of ?_⟩
        repeat first | with_reducible exact Below.refl _ _ | with_reducible refine Below.setCell ?_ (by first | omega | (simp; done) | (simp; omega)) _ | with_reducible refine Below.alloc ?_ (by first | omega | (simp; done) | (simp; omega)) _ | with_reducible refine Below.drew ?_ | with_reducible refine Ext.on _ ?_ (by first | omega | (simp; done) | (simp; omega))
    · have d1 : decide (16 < (s.size : Int)) = false := by simp; omega
      cases hb : letB s[0].toNat
      · have HR : Hid (nameB s = false) := Lib.hid (by unfold nameB; rw [if_neg h0, if_neg h16, getD_at h1, if_pos hb])
        clear h0 h16
        go_enter Tryd.func97, Tryd.ntmps97
        go_wp2_with (go_at_call 126; ((with_reducible refine (letter_calls _ _).mono ?_); rintro r _ ⟨rfl, y, rfl⟩))
        all_goals
          go_ret
          refine ⟨ret_bool HR.out.symm, Cls.of ?_⟩
          repeat first | with_reducible exact Below.refl _ _ | with_reducible refine Below.setCell ?_ (by first | omega | (simp; done) | (simp; omega)) _ | with_reducible refine Below.alloc ?_ (by first | omega | (simp; done) | (simp; omega)) _ | with_reducible refine Below.drew ?_ | with_reducible refine Ext.on _ ?_ (by first | omega | (simp; done) | (simp; omega))
      · have HR : Hid (nameB s = if restB s 1 = false then false else !resB s) := Lib.hid (by unfold nameB restB; rw [if_neg h0, if_neg h16, getD_at h1, if_neg (by rw [hb]; decide)])
        clear h0 h16
        go_enter Tryd.func97, Tryd.ntmps97
        go_wp2_with (go_at_call 126; ((with_reducible refine (letter_calls _ _).mono ?_); rintro r _ ⟨rfl, y, rfl⟩))
        go_loopw [3] (fun i wr => ∃ j : Nat, 1 ≤ j ∧ j ≤ s.size ∧ i = .int .i64 j ∧ restB s 1 = restB s j ∧ Cls w wr) (fun i _ => s.size - (intOf i).toNat)
        case atStart => exact ⟨1, Nat.le_refl _, by omega, rfl, rfl, y, rfl⟩
        case round =>
          obtain ⟨j, hj1, hj, rfl, he, x, rfl⟩ := hrel
          by_cases hlt : j < s.size
          · have HG : Hid (restB s 1 = (okB s[j] && restB s (j + 1))) := Lib.hid (by rw [he, restB_go hlt])
            have HOK : Hid (okB s[j] = (letB s[j].toNat || digB s[j].toNat || ((s[j].toNat : Int) == 95))) := Lib.hid rfl
            clear he
            cases b1 : letB s[j].toNat <;> cases b2 : digB s[j].toNat <;> cases b3 : ((s[j].toNat : Int) == 95)
            all_goals
              have b4 : ((s[j].toNat : Int) != 95) = !((s[j].toNat : Int) == 95) := rfl
              rw [b3] at b4
              rw [b1, b2, b3] at HOK
              go_wp2_with (first | (go_at_call 126; ((with_reducible refine (Cls.call (letter_calls _ _)).mono ?_); rintro r _ ⟨rfl, y1, rfl⟩)) | (go_at_call 127; ((with_reducible refine (Cls.call (digit_calls _ _)).mono ?_); rintro r _ ⟨rfl, y2, rfl⟩)))
              all_goals first
                | (go_ret
                   refine ⟨ret_bool (by rw [HR.out, HG.out, HOK.out]; rfl), Cls.of ?_⟩
                   repeat first | with_reducible exact Below.refl _ _ | with_reducible refine Below.setCell ?_ (by first | omega | (simp; done) | (simp; omega)) _ | with_reducible refine Below.alloc ?_ (by first | omega | (simp; done) | (simp; omega)) _ | with_reducible refine Below.drew ?_ | with_reducible refine Ext.on _ ?_ (by first | omega | (simp; done) | (simp; omega)))
                | (go_roundw
                   case rel =>
                     refine ⟨j + 1, by omega, by omega, by go_num, by rw [HG.out, HOK.out]; simp, Cls.of ?_⟩
                     repeat first | with_reducible exact Below.refl _ _ | with_reducible refine Below.setCell ?_ (by first | omega | (simp; done) | (simp; omega)) _ | with_reducible refine Below.alloc ?_ (by first | omega | (simp; done) | (simp; omega)) _ | with_reducible refine Below.drew ?_ | with_reducible refine Ext.on _ ?_ (by first | omega | (simp; done) | (simp; omega))
                   case measure => simp [intOf]; omega)
          · have HE : Hid (restB s 1 = true) := Lib.hid (by rw [he, restB_end (by omega)])
            clear he
            go_wp2_with (first | (go_at_call 128; ((with_reducible refine (Cls.call (reserved_calls _ _)).mono ?_); rintro r _ ⟨rfl, y1, rfl⟩)))
            go_ret
            refine ⟨ret_bool (by rw [HR.out, HE.out]; simp), Cls.of ?_⟩
            repeat first | with_reducible exact Below.refl _ _ | with_reducible refine Below.setCell ?_ (by first | omega | (simp; done) | (simp; omega)) _ | with_reducible refine Below.alloc ?_ (by first | omega | (simp; done) | (simp; omega)) _ | with_reducible refine Below.drew ?_ | with_reducible refine Ext.on _ ?_ (by first | omega | (simp; done) | (simp; omega))
set_option maxHeartbeats 4000000 in
set_option maxRecDepth 20000 in
theorem rName_calls (s : ByteArray) (w : World) (hs : s.size ≤ maxLen) : Calls Tryd.prog 58 #[.string s] w fun e w' => e = .returned (.bool (nameB s)) ∧ Cls w w' := by
  unfold maxLen at hs
  by_cases h0 : s.size = 0
  · have HR : Hid (nameB s = false) := Lib.hid (by unfold nameB; rw [if_pos h0])
    have d0 : decide ((s.size : Int) < 1) = true := by simp; omega
    clear h0
    go_enter Tryd.func58, Tryd.ntmps58
    go_wp2_with fail
    all_goals
      go_ret
      refine ⟨ret_bool HR.out.symm, Cls.of ?_⟩
      repeat first | with_reducible exact Below.refl _ _ | with_reducible refine Below.setCell ?_ (by first | omega | (simp; done) | (simp; omega)) _ | with_reducible refine Below.alloc ?_ (by first | omega | (simp; done) | (simp; omega)) _ | with_reducible refine Below.drew ?_ | with_reducible refine Ext.on _ ?_ (by first | omega | (simp; done) | (simp; omega))
  · have d0 : decide ((s.size : Int) < 1) = false := by simp; omega
    have h1 : 0 < s.size := by omega
    by_cases h16 : 16 < s.size
    · have HR : Hid (nameB s = false) := Lib.hid (by unfold nameB; rw [if_neg h0, if_pos h16])
      have d1 : decide (16 < (s.size : Int)) = true := by simp; omega
      clear h0 h16
      go_enter Tryd.func58, Tryd.ntmps58
      go_wp2_with fail
      all_goals
        go_ret
        refine ⟨ret_bool HR.out.symm, Cls.of ?_⟩
        repeat first | with_reducible exact Below.refl _ _ | with_reducible refine Below.setCell ?_ (by first | omega | (simp; done) | (simp; omega)) _ | with_reducible refine Below.alloc ?_ (by first | omega | (simp; done) | (simp; omega)) _ | with_reducible refine Below.drew ?_ | with_reducible refine Ext.on _ ?_ (by first | omega | (simp; done) | (simp; omega))
    · have d1 : decide (16 < (s.size : Int)) = false := by simp; omega
      by_cases hb : (97 : Int) ≤ (s[0].toNat : Int) ∧ (s[0].toNat : Int) ≤ 122
      · have hok : letB s[0].toNat = true := by simp [letB, hb.1, hb.2]
        have HR : Hid (nameB s = if restB s 0 = false then false else !resB s) := Lib.hid (by
          unfold nameB
          rw [if_neg h0, if_neg h16, getD_at h1, if_neg (by rw [hok]; decide), restB_go h1]
          have : okB s[0] = true := by unfold okB; rw [hok]; rfl
          rw [this]; rfl)
        obtain ⟨hb1, hb2⟩ := hb
        clear h0 h16 hok
        go_enter Tryd.func58, Tryd.ntmps58
        go_wp2_with fail
        go_loopw [3] (fun i wr => ∃ j : Nat, j ≤ s.size ∧ i = .int .i64 j ∧ restB s 0 = restB s j ∧ Cls w wr) (fun i _ => s.size - (intOf i).toNat)
        case atStart => exact ⟨0, by omega, rfl, rfl, Cls.of (Below.refl _ _)⟩
        case round =>
          obtain ⟨j, hj, rfl, he, x, rfl⟩ := hrel
          by_cases hlt : j < s.size
          · have HG : Hid (restB s 0 = (okB s[j] && restB s (j + 1))) := Lib.hid (by rw [he, restB_go hlt])
            have HOK : Hid (okB s[j] = (letB s[j].toNat || digB s[j].toNat || ((s[j].toNat : Int) == 95))) := Lib.hid rfl
            clear he
            go_wp2_with fail
            all_goals first
              | (go_ret
                 have hn : okB s[j] = false := by
                   rw [Bool.eq_false_iff, ne_eq, okB_iff]
                   try simp only [bne_iff_ne, ne_eq] at *
                   omega
                 refine ⟨ret_bool (by rw [HR.out, HG.out, hn]; rfl), Cls.of ?_⟩
                 repeat first | with_reducible exact Below.refl _ _ | with_reducible refine Below.setCell ?_ (by first | omega | (simp; done) | (simp; omega)) _ | with_reducible refine Below.alloc ?_ (by first | omega | (simp; done) | (simp; omega)) _ | with_reducible refine Below.drew ?_ | with_reducible refine Ext.on _ ?_ (by first | omega | (simp; done) | (simp; omega)))
              | (have hn : okB s[j] = true := by
                   rw [okB_iff]
                   try simp only [bne_eq_false_iff_eq] at *
                   omega
                 have HN := Lib.hid hn
                 clear hn
                 go_roundw
                 case rel =>
                   refine ⟨j + 1, by omega, by go_num, by rw [HG.out, HN.out]; rfl, Cls.of ?_⟩
                   repeat first | with_reducible exact Below.refl _ _ | with_reducible refine Below.setCell ?_ (by first | omega | (simp; done) | (simp; omega)) _ | with_reducible refine Below.alloc ?_ (by first | omega | (simp; done) | (simp; omega)) _ | with_reducible refine Below.drew ?_ | with_reducible refine Ext.on _ ?_ (by first | omega | (simp; done) | (simp; omega))
                 case measure => simp [intOf]; omega)
          · have HE : Hid (restB s 0 = true) := Lib.hid (by rw [he, restB_end (by omega)])
            clear he
            go_wp2_with (go_at_call 105; ((with_reducible refine (Reserved_calls _).mono ?_); rintro r w2 hq; obtain ⟨b, rfl, hb, hcell, y, rfl⟩ := hq; have HC := Lib.hid hcell; clear hcell))
            go_loopw [5] (fun i wr => ∃ j : Nat, j ≤ 52 ∧ i = .int .i64 j ∧ resB s = ((wordsB.drop j).any fun x => x.toList == s.toList) ∧ Cls y.val wr) (fun i _ => 52 - (intOf i).toNat)
            case atStart => exact ⟨0, by omega, rfl, resB_eq s, Cls.of (Below.refl _ _)⟩
            case round =>
              obtain ⟨j, hj, rfl, he, z, rfl⟩ := hrel
              have HD := Lib.hid he
              clear he
              by_cases hlt : j < 52
              · have q := HC.out j hlt
                generalize hx : wordsB.getD j ByteArray.empty = x0 at q
                have HX := Lib.hid hx
                clear hx
                cases hc : x0.toList == s.toList
                · have HB := Lib.hid hc
                  go_wp2_with fail
                  go_roundw
                  case rel =>
                    refine ⟨j + 1, by omega, by go_num, by rw [HD.out, dropW hlt, List.any_cons, HX.out, HB.out]; rfl, Cls.of ?_⟩
                    repeat first | with_reducible exact Below.refl _ _ | with_reducible refine Below.setCell ?_ (by first | omega | (simp; done) | (simp; omega)) _ | with_reducible refine Below.alloc ?_ (by first | omega | (simp; done) | (simp; omega)) _ | with_reducible refine Below.drew ?_ | with_reducible refine Ext.on _ ?_ (by first | omega | (simp; done) | (simp; omega))
                  case measure => simp [intOf]; omega
                · have HB := Lib.hid hc
                  go_wp2_with fail
                  go_ret
                  have hres : resB s = true := by rw [HD.out, dropW hlt, List.any_cons, HX.out, HB.out]; rfl
                  have sx := x.size
                  have sy := y.size
                  refine ⟨ret_bool (by rw [HR.out, HE.out, hres]; rfl), Cls.of ?_⟩
                  repeat first | with_reducible exact Below.refl _ _ | with_reducible refine Below.setCell ?_ (by first | omega | (simp; done) | (simp; omega)) _ | with_reducible refine Below.alloc ?_ (by first | omega | (simp; done) | (simp; omega)) _ | with_reducible refine Below.drew ?_ | with_reducible refine Ext.on _ ?_ (by first | omega | (simp; done) | (simp; omega))
              · go_wp2_with fail
                go_ret
                have hres : resB s = false := by
                  rw [HD.out, List.drop_of_length_le (by show 52 ≤ j; omega)]; rfl
                have sx := x.size
                have sy := y.size
                refine ⟨ret_bool (by rw [HR.out, HE.out, hres]; rfl), Cls.of ?_⟩
                repeat first | with_reducible exact Below.refl _ _ | with_reducible refine Below.setCell ?_ (by first | omega | (simp; done) | (simp; omega)) _ | with_reducible refine Below.alloc ?_ (by first | omega | (simp; done) | (simp; omega)) _ | with_reducible refine Below.drew ?_ | with_reducible refine Ext.on _ ?_ (by first | omega | (simp; done) | (simp; omega))
      · have hok : letB s[0].toNat = false := by
          rw [Bool.eq_false_iff]; intro e; apply hb; simpa [letB] using e
        have HR : Hid (nameB s = false) := Lib.hid (by unfold nameB; rw [if_neg h0, if_neg h16, getD_at h1, if_pos hok])
        clear h0 h16 hok
        go_enter Tryd.func58, Tryd.ntmps58
        go_wp2_with fail
        all_goals first
          | (exfalso; omega)
          | (go_ret
             refine ⟨ret_bool HR.out.symm, Cls.of ?_⟩
             repeat first | with_reducible exact Below.refl _ _ | with_reducible refine Below.setCell ?_ (by first | omega | (simp; done) | (simp; omega)) _ | with_reducible refine Below.alloc ?_ (by first | omega | (simp; done) | (simp; omega)) _ | with_reducible refine Below.drew ?_ | with_reducible refine Ext.on _ ?_ (by first | omega | (simp; done) | (simp; omega)))
end Go.Proofs.YtpddkljedhghkaaDoor
set_option linter.unusedVariables false
namespace Go.Proofs.YtpddkljedhghkaaDoor
open Go Go.RowKit Go.Deep
def colP (f : Nat → Cl) (s : ByteArray) (i : Nat) : Bool := (f i).name.toList == s.toList
set_option maxHeartbeats 2000000 in
set_option maxRecDepth 20000 in
theorem colFn_calls (c : Cl) (s : ByteArray) (b : Nat) (w : World) (hb : w.cell? ⟨b, 0, none⟩ = some (.string s)) (hlt : b < w.heap.size) :
    Calls Tryd.prog 148 #[.agg #[.string c.name, .int .i64 c.ty, .bool c.null], .pointer (some ⟨b, 0, none⟩)] w fun r w' => r = .returned (.bool (c.name.toList == s.toList)) ∧ Cls w w' := by
  go_enter Tryd.func148, Tryd.ntmps148
  go_wp2_with fail
  go_ret
  refine ⟨ret_bool rfl, Cls.of ?_⟩
  repeat first | with_reducible exact Below.refl _ _ | with_reducible refine Below.setCell ?_ (by first | omega | (simp; done) | (simp; omega)) _ | with_reducible refine Below.alloc ?_ (by first | omega | (simp; done) | (simp; omega)) _ | with_reducible refine Below.drew ?_ | with_reducible refine Ext.on _ ?_ (by first | omega | (simp; done) | (simp; omega))
set_option maxHeartbeats 4000000 in
set_option maxRecDepth 20000 in
theorem indexC_calls (sl : Sl) (f : Nat → Cl) (s : ByteArray) (bx : Nat) (w : World) (h : SlAt w 3 sl fun i => (f i).cells) (hb : w.cell? ⟨bx, 0, none⟩ = some (.string s)) (hlt : bx < w.heap.size) :
    Calls Tryd.prog 169 #[.slice sl.a sl.len sl.cap, .func (.func 148) #[] #[.pointer (some ⟨bx, 0, none⟩)]] w fun r w' => r = .returned (.int .i64 (idx (colP f s) 0 sl.len)) ∧ Cls w w' := by
  have hle := h.1
  have hmax := h.2.1
  unfold maxLen at hmax
  have H := Lib.hid h
  obtain ⟨sa, sn, sc⟩ := sl
  simp only at hle hmax
  clear h
  go_enter Tryd.func169, Tryd.ntmps169
  go_wp2_with fail
  go_loopw [8] (fun i wr => ∃ j : Nat, j ≤ sn ∧ i = .int .i64 j ∧ idx (colP f s) 0 sn = idx (colP f s) j (sn - j) ∧ Cls w wr) (fun i _ => sn - (intOf i).toNat)
  case atStart => exact ⟨0, Nat.zero_le _, rfl, rfl, Cls.of (Below.refl _ _)⟩
  case round =>
    obtain ⟨j, hj, rfl, he, x, rfl⟩ := hrel
    have HE := Lib.hid he
    clear he
    have xs := x.size
    by_cases hltj : j < sn
    · obtain ⟨b, off, ha, hb2, hc⟩ := H.out.2.2.2 j hltj
      simp only at ha
      subst ha
      have q0 := hc 0 (by omega)
      have q1 := hc 1 (by omega)
      have q2 := hc 2 (by omega)
      simp only [Cl.cells, List.getElem?_cons_zero, List.getElem?_cons_succ, Nat.add_zero] at q0 q1 q2
      have hN : Hid (colP f s j = ((f j).name.toList == s.toList)) := Lib.hid rfl
      have hS : Hid (sn - j = (sn - (j + 1)) + 1) := Lib.hid (by omega)
      clear hc
      generalize f j = c at *
      cases hbb : c.name.toList == s.toList
      all_goals
        have HB := Lib.hid hbb
        have C1 : Hid (∀ W, Below w.heap.size w W → Calls Tryd.prog 148 #[.agg #[.string c.name, .int .i64 c.ty, .bool c.null], .pointer (some ⟨bx, 0, none⟩)] W fun r w' => r = .returned (.bool (c.name.toList == s.toList)) ∧ Cls W w') := Lib.hid (fun W hW => colFn_calls c s bx W (by rw [hW.cell (p := ⟨bx, 0, none⟩) hlt]; exact hb) (Nat.lt_of_lt_of_le hlt hW.size))
        rw [hbb] at C1
        clear hbb
        go_wp2_with (go_at_call 148; ((with_reducible refine (Cls.call (C1.out _ x.below)).mono ?_); rintro r _ ⟨rfl, y, rfl⟩))
      · go_roundw
        case rel => exact ⟨j + 1, by omega, by go_num, by rw [HE.out, hS.out, idx_go (by rw [hN.out, HB.out])], y, rfl⟩
        case measure => simp [intOf]; omega
      · go_ret
        exact ⟨ret_int (by rw [HE.out, hS.out, idx_stop (by rw [hN.out, HB.out])]), y, rfl⟩
    · have hz : Hid (sn - j = 0) := Lib.hid (by omega)
      go_wp2_with fail
      go_ret
      exact ⟨ret_int (by rw [HE.out, hz.out]; rfl), x, rfl⟩
set_option maxHeartbeats 2000000 in
set_option maxRecDepth 20000 in
theorem firstC_calls (sl : Sl) (f : Nat → Cl) (s : ByteArray) (bx : Nat) (w : World) (h : SlAt w 3 sl fun i => (f i).cells) (hb : w.cell? ⟨bx, 0, none⟩ = some (.string s)) (hlt : bx < w.heap.size) :
    Calls Tryd.prog 147 #[.slice sl.a sl.len sl.cap, .func (.func 148) #[] #[.pointer (some ⟨bx, 0, none⟩)]] w fun r w' => r = .returned (.tuple #[.int .i64 (at0 (idx (colP f s) 0 sl.len)), .bool (decide (0 ≤ idx (colP f s) 0 sl.len))]) ∧ Cls w w' := by
  have C1 := Lib.hid (indexC_calls sl f s bx w h hb hlt)
  have hbd := idx_bd (colP f s) sl.len 0
  clear h hb
  generalize idx (colP f s) 0 sl.len = r0 at C1 hbd ⊢
  by_cases hr : r0 < 0
  · have e1 : at0 r0 = 0 := by unfold at0; rw [if_pos hr]
    have d1 : decide (0 ≤ r0) = false := by simp; omega
    rw [e1, d1]
    go_enter Tryd.func147, Tryd.ntmps147
    go_wp2_with (go_at_call 169; ((with_reducible refine C1.out.mono ?_); rintro r _ ⟨rfl, y, rfl⟩))
    all_goals first
      | (exfalso; omega)
      | (go_ret2
         exact ⟨rfl, y, rfl⟩)
  · have e1 : at0 r0 = r0 := by unfold at0; rw [if_neg hr]
    have d1 : decide (0 ≤ r0) = true := by simp; omega
    rw [e1, d1]
    go_enter Tryd.func147, Tryd.ntmps147
    go_wp2_with (go_at_call 169; ((with_reducible refine C1.out.mono ?_); rintro r _ ⟨rfl, y, rfl⟩))
    all_goals first
      | (exfalso; omega)
      | (go_ret2
         exact ⟨rfl, y, rfl⟩)
set_option maxHeartbeats 2000000 in
set_option maxRecDepth 20000 in
theorem Column_calls (t : Tb) (s : ByteArray) (w : World) (h : TbAt w t) :
    Calls Tryd.prog 129 #[.agg #[.string t.name, .slice t.cs.a t.cs.len t.cs.cap, .slice t.ps.a t.ps.len t.ps.cap, .slice t.us.a t.us.len t.us.cap, .slice t.fs.a t.fs.len t.fs.cap, .slice t.ks.a t.ks.len t.ks.cap], .string s] w fun r w' => r = .returned (.tuple #[.int .i64 (at0 (idx (colP t.col s) 0 t.cs.len)), .bool (decide (0 ≤ idx (colP t.col s) 0 t.cs.len))]) ∧ Cls w w' := by
  have C1 : Hid (∀ W, Below w.heap.size w W → W.cell? ⟨w.heap.size + 1, 0, none⟩ = some (.string s) → w.heap.size + 1 < W.heap.size → Calls Tryd.prog 147 #[.slice t.cs.a t.cs.len t.cs.cap, .func (.func 148) #[] #[.pointer (some ⟨w.heap.size + 1, 0, none⟩)]] W fun r w' => r = .returned (.tuple #[.int .i64 (at0 (idx (colP t.col s) 0 t.cs.len)), .bool (decide (0 ≤ idx (colP t.col s) 0 t.cs.len))]) ∧ Cls W w') :=
    Lib.hid (fun W hW hc hl => firstC_calls t.cs t.col s _ W (h.cols.later hW) hc hl)
  clear h
  go_enter Tryd.func129, Tryd.ntmps129
  go_wp2_with (go_at_call 147; ((with_reducible refine (C1.out _ ?_ ?_ ?_).mono ?_); (· (repeat first | with_reducible exact Below.refl _ _ | with_reducible refine Below.setCell ?_ (by first | omega | (simp; done) | (simp; omega)) _ | with_reducible refine Below.alloc ?_ (by first | omega | (simp; done) | (simp; omega)) _ | with_reducible refine Below.drew ?_ | with_reducible refine Ext.on _ ?_ (by first | omega | (simp; done) | (simp; omega)))); (· simp [go_sem]); (· simp); rintro r _ ⟨rfl, y, rfl⟩))
  go_ret2
  refine ⟨rfl, Cls.of ?_⟩
  repeat first | with_reducible exact Below.refl _ _ | with_reducible refine Below.setCell ?_ (by first | omega | (simp; done) | (simp; omega)) _ | with_reducible refine Below.alloc ?_ (by first | omega | (simp; done) | (simp; omega)) _ | with_reducible refine Below.drew ?_ | with_reducible refine Ext.on _ ?_ (by first | omega | (simp; done) | (simp; omega))
set_option maxHeartbeats 2000000 in
set_option maxRecDepth 20000 in
theorem rColumn_calls (t : Tb) (s : ByteArray) (w : World) (h : TbAt w t) :
    Calls Tryd.prog 106 #[.agg #[.string t.name, .slice t.cs.a t.cs.len t.cs.cap, .slice t.ps.a t.ps.len t.ps.cap, .slice t.us.a t.us.len t.us.cap, .slice t.fs.a t.fs.len t.fs.cap, .slice t.ks.a t.ks.len t.ks.cap], .string s] w fun r w' => r = .returned (.tuple #[.int .i64 (at0 (idx (colP t.col s) 0 t.cs.len)), .bool (decide (0 ≤ idx (colP t.col s) 0 t.cs.len))]) ∧ Cls w w' := by
  have hle := h.cols.1
  have hmax := h.cols.2.1
  unfold maxLen at hmax
  have H := Lib.hid h.cols
  obtain ⟨tn, ⟨sa, sn, sc⟩, f, tps, tprim, tus, tuq, tuqn, tfs, tfk, tfkn, tfkt, tks, tch⟩ := t
  simp only at hle hmax H ⊢
  clear h
  go_enter Tryd.func106, Tryd.ntmps106
  go_wp2_with fail
  go_loopw [6] (fun i wr => ∃ j : Nat, j ≤ sn ∧ i = .int .i64 j ∧ idx (colP f s) 0 sn = idx (colP f s) j (sn - j) ∧ Cls (w.alloc (.cells #[.string tn, .slice sa sn sc, .slice tps.a tps.len tps.cap, .slice tus.a tus.len tus.cap, .slice tfs.a tfs.len tfs.cap, .slice tks.a tks.len tks.cap] 53)) wr) (fun i _ => sn - (intOf i).toNat)
  case atStart => exact ⟨0, Nat.zero_le _, rfl, rfl, Cls.of (Below.refl _ _)⟩
  case round =>
    obtain ⟨j, hj, rfl, he, x, rfl⟩ := hrel
    have HE := Lib.hid he
    clear he
    by_cases hltj : j < sn
    · obtain ⟨b, off, ha, hb2, hc⟩ := H.out.2.2.2 j hltj
      simp only at ha
      subst ha
      have q0 := hc 0 (by omega)
      have hb1 : b < w.heap.size + 1 := by omega
      simp only [Cl.cells, List.getElem?_cons_zero, Nat.add_zero] at q0
      have hN : Hid (colP f s j = ((f j).name.toList == s.toList)) := Lib.hid rfl
      have hS : Hid (sn - j = (sn - (j + 1)) + 1) := Lib.hid (by omega)
      clear hc
      generalize f j = c at *
      cases hbb : c.name.toList == s.toList
      · have HB := Lib.hid hbb
        go_wp2_with fail
        go_roundw
        case rel => exact ⟨j + 1, by omega, by go_num, by rw [HE.out, hS.out, idx_go (by rw [hN.out, HB.out])], x, rfl⟩
        case measure => simp [intOf]; omega
      · have HB := Lib.hid hbb
        have hI : idx (colP f s) 0 sn = j := by rw [HE.out, hS.out, idx_stop (by rw [hN.out, HB.out])]
        have e1 : at0 (j : Int) = j := by unfold at0; rw [if_neg (by omega)]
        have d1 : decide (0 ≤ (j : Int)) = true := by simp
        have hI2 := Lib.hid hI
        clear hI
        go_wp2_with fail
        go_ret2
        refine ⟨?_, Cls.of ?_⟩
        · show _ = Ending.returned (.tuple #[.int .i64 (at0 (idx (colP f s) 0 sn)), .bool (decide (0 ≤ idx (colP f s) 0 sn))])
          rw [hI2.out, e1, d1]; rfl
        · repeat first | with_reducible exact Below.refl _ _ | with_reducible refine Below.setCell ?_ (by first | omega | (simp; done) | (simp; omega)) _ | with_reducible refine Below.alloc ?_ (by first | omega | (simp; done) | (simp; omega)) _ | with_reducible refine Below.drew ?_ | with_reducible refine Ext.on _ ?_ (by first | omega | (simp; done) | (simp; omega))
    · have hz : sn - j = 0 := by omega
      have hI : idx (colP f s) 0 sn = -1 := by rw [HE.out, hz]; rfl
      have hI2 := Lib.hid hI
      clear hI hz
      go_wp2_with fail
      go_ret2
      refine ⟨?_, Cls.of ?_⟩
      · show _ = Ending.returned (.tuple #[.int .i64 (at0 (idx (colP f s) 0 sn)), .bool (decide (0 ≤ idx (colP f s) 0 sn))])
        rw [hI2.out]; rfl
      · repeat first | with_reducible exact Below.refl _ _ | with_reducible refine Below.setCell ?_ (by first | omega | (simp; done) | (simp; omega)) _ | with_reducible refine Below.alloc ?_ (by first | omega | (simp; done) | (simp; omega)) _ | with_reducible refine Below.drew ?_ | with_reducible refine Ext.on _ ?_ (by first | omega | (simp; done) | (simp; omega))
end Go.Proofs.YtpddkljedhghkaaDoor
