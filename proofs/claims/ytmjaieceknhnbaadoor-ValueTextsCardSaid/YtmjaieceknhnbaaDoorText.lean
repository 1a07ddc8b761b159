/-
  What Text gives, of the program and of the reference, for all values: the same bytes.
-/
import Derived.Test.YtmjaieceknhnbaaDoorTruth
import Derived.Test.YtmjaieceknhnbaaDoorValid
import Derived.Test.YtmjaieceknhnbaaDoorTexts
import Derived.Test.YtmjaieceknhnbaaDoorShelf
import Derived.Lib.AppendIntMem
import Derived.WalkSmall
import Derived.Lib.Hide
set_option linter.unusedVariables false
namespace Go.Proofs.YtmjaieceknhnbaaDoor
open Go Go.RowKit

/-- The text of a value: its bytes. -/
def txt (k n : Int) (s : ByteArray) : List UInt8 :=
  if vB k n s = true then if k = 1 then Lib.itoa n else if k = 2 then if n = 1 then [116, 114, 117, 101] else [102, 97, 108, 115, 101] else if k = 3 then 39 :: s.data.toList ++ [39] else [110, 117, 108, 108] else [63]
/-- strconv's table reads as it stands in the program. -/
def Tab (w : World) : Prop := Lib.TabIs Tryd.prog w "internal/strconv.uint64pow10" .u64 Lib.pow10Tab
theorem Tab.later {w w' : World} (h : Tab w) (hb : Below w.heap.size w w') : Tab w' := by
  refine var?_below (g := 1) hb (by kernel_rfl) ?_ h
  rcases Nat.lt_or_ge 1 w.heap.size with h' | h'
  · exact h'
  · unfold Tab Lib.TabIs World.var? at h
    rw [show Tryd.prog.globalNamed "internal/strconv.uint64pow10" = some 1 by kernel_rfl] at h
    simp [Array.getElem?_eq_none h'] at h
theorem fmt_calls (n : Int) (w : World) (h : -1000000000000 ≤ n ∧ n ≤ 1000000000000) (ht : Tab w) :
    Calls Tryd.prog 31 #[.int .i64 n, .int .i64 10] w fun e w' => e = .returned (.string ⟨(Lib.itoa n).toArray⟩) ∧ Cls w w' :=
  (Tryd.strconv_FormatInt_10 n (by omega) (by omega) w ht).mono fun _ _ ⟨he, k, os, hw⟩ => ⟨he, Cls.of (by rw [hw]; exact Lib.below_grow _ w (Nat.le_refl _) k os)⟩
theorem Valid_is (k n : Int) (s : ByteArray) (b : Bool) (w : World) (hs : s.size ≤ maxLen) (h : vB k n s = b) :
    Calls Tryd.prog 29 #[.agg #[.int .i64 k, .int .i64 n, .string s]] w fun e w' => e = .returned (.bool b) ∧ Cls w w' := by
  subst h; exact Valid_calls k n s w hs
theorem rValid_is (k n : Int) (s : ByteArray) (b : Bool) (w : World) (hs : s.size ≤ maxLen) (h : vB k n s = b) :
    Calls Tryd.prog 12 #[.agg #[.int .i64 k, .int .i64 n, .string s]] w fun e w' => e = .returned (.bool b) ∧ Cls w w' := by
  subst h; exact rValid_calls k n s w hs
theorem ret_str {a b : ByteArray} (h : a = b) : Ending.returned (.string a) = .returned (.string b) := by rw [h]
theorem quoted (s : ByteArray) : (⟨#[39]⟩ : ByteArray) ++ s ++ (⟨#[39]⟩ : ByteArray) = ⟨(39 :: s.data.toList ++ [39]).toArray⟩ := by
  apply ByteArray.ext
  simp
set_option maxHeartbeats 1000000 in
theorem Text_bad (k n : Int) (s : ByteArray) (w : World) (hs : s.size ≤ maxLen) (h : vB k n s = false) :
    Calls Tryd.prog 10 #[.agg #[.int .i64 k, .int .i64 n, .string s]] w fun e w' => e = .returned (.string ⟨#[63]⟩) ∧ Cls w w' := by
  have HV := Lib.hid h
  clear h
  go_enter Tryd.func10, Tryd.ntmps10
  go_wp2_with (first | (go_at_call 29; ((with_reducible refine (Valid_is _ _ _ _ _ hs HV.out).mono ?_); rintro e _ ⟨rfl, y, rfl⟩)))
  go_ret
  refine ⟨ret_str rfl, ?_⟩
  refine Cls.of ?_
  repeat first | with_reducible exact Below.refl _ _ | with_reducible refine Below.setCell ?_ (by first | omega | (simp; done) | (simp; omega)) _ | with_reducible refine Below.alloc ?_ (by first | omega | (simp; done) | (simp; omega)) _ | with_reducible refine Below.drew ?_ | with_reducible refine Ext.on _ ?_ (by first | omega | (simp; done) | (simp; omega))
set_option maxHeartbeats 1000000 in
theorem Text_num (n : Int) (s : ByteArray) (w : World) (hs : s.size ≤ maxLen) (h : vB 1 n s = true) (ht : Tab w) :
    Calls Tryd.prog 10 #[.agg #[.int .i64 1, .int .i64 n, .string s]] w fun e w' => e = .returned (.string ⟨(Lib.itoa n).toArray⟩) ∧ Cls w w' := by
  have hb : -1000000000000 ≤ n ∧ n ≤ 1000000000000 := by simp [vB] at h; exact h.1
  have HT : Hid (∀ w', Below (w.alloc (.cells #[.int .i64 1, .int .i64 n, .string s] 23)).heap.size (w.alloc (.cells #[.int .i64 1, .int .i64 n, .string s] 23)) w' → Tab w') := Lib.hid (fun w' hw => (ht.later ((Below.refl _ _).alloc (Nat.le_refl _) _)).later hw)
  clear ht
  have HV := Lib.hid h
  clear h
  go_enter Tryd.func10, Tryd.ntmps10
  go_wp2_with (first | (go_at_call 29; ((with_reducible refine (Valid_is _ _ _ _ _ hs HV.out).mono ?_); rintro e _ ⟨rfl, y, rfl⟩)) | (go_at_call 31; ((with_reducible refine (Cls.call (fmt_calls n _ hb (HT.out _ (Ext.below _)))).mono ?_); rintro e _ ⟨rfl, y, rfl⟩)))
  go_ret
  refine ⟨ret_str rfl, ?_⟩
  refine Cls.of ?_
  repeat first | with_reducible exact Below.refl _ _ | with_reducible refine Below.setCell ?_ (by first | omega | (simp; done) | (simp; omega)) _ | with_reducible refine Below.alloc ?_ (by first | omega | (simp; done) | (simp; omega)) _ | with_reducible refine Below.drew ?_ | with_reducible refine Ext.on _ ?_ (by first | omega | (simp; done) | (simp; omega))
set_option maxHeartbeats 1000000 in
theorem Text_yes (s : ByteArray) (w : World) (hs : s.size ≤ maxLen) (h : vB 2 1 s = true) :
    Calls Tryd.prog 10 #[.agg #[.int .i64 2, .int .i64 1, .string s]] w fun e w' => e = .returned (.string ⟨#[116, 114, 117, 101]⟩) ∧ Cls w w' := by
  have HV := Lib.hid h
  clear h
  have ht : truT 2 1 = 1 := rfl
  go_enter Tryd.func10, Tryd.ntmps10
  go_wp2_with (first | (go_at_call 29; ((with_reducible refine (Valid_is _ _ _ _ _ hs HV.out).mono ?_); rintro e _ ⟨rfl, y, rfl⟩)) | (go_at_call 32; ((with_reducible refine (Cls.call (Truth_calls _ _ _ _)).mono ?_); rintro e _ ⟨rfl, y, rfl⟩)))
  go_ret
  refine ⟨ret_str rfl, ?_⟩
  refine Cls.of ?_
  repeat first | with_reducible exact Below.refl _ _ | with_reducible refine Below.setCell ?_ (by first | omega | (simp; done) | (simp; omega)) _ | with_reducible refine Below.alloc ?_ (by first | omega | (simp; done) | (simp; omega)) _ | with_reducible refine Below.drew ?_ | with_reducible refine Ext.on _ ?_ (by first | omega | (simp; done) | (simp; omega))
set_option maxHeartbeats 1000000 in
theorem Text_no (s : ByteArray) (w : World) (hs : s.size ≤ maxLen) (h : vB 2 0 s = true) :
    Calls Tryd.prog 10 #[.agg #[.int .i64 2, .int .i64 0, .string s]] w fun e w' => e = .returned (.string ⟨#[102, 97, 108, 115, 101]⟩) ∧ Cls w w' := by
  have HV := Lib.hid h
  clear h
  have ht : truT 2 0 = 0 := rfl
  go_enter Tryd.func10, Tryd.ntmps10
  go_wp2_with (first | (go_at_call 29; ((with_reducible refine (Valid_is _ _ _ _ _ hs HV.out).mono ?_); rintro e _ ⟨rfl, y, rfl⟩)) | (go_at_call 32; ((with_reducible refine (Cls.call (Truth_calls _ _ _ _)).mono ?_); rintro e _ ⟨rfl, y, rfl⟩)))
  go_ret
  refine ⟨ret_str rfl, ?_⟩
  refine Cls.of ?_
  repeat first | with_reducible exact Below.refl _ _ | with_reducible refine Below.setCell ?_ (by first | omega | (simp; done) | (simp; omega)) _ | with_reducible refine Below.alloc ?_ (by first | omega | (simp; done) | (simp; omega)) _ | with_reducible refine Below.drew ?_ | with_reducible refine Ext.on _ ?_ (by first | omega | (simp; done) | (simp; omega))
set_option maxHeartbeats 1000000 in
theorem Text_text (n : Int) (s : ByteArray) (w : World) (hs : s.size ≤ maxLen) (h : vB 3 n s = true) :
    Calls Tryd.prog 10 #[.agg #[.int .i64 3, .int .i64 n, .string s]] w fun e w' => e = .returned (.string ⟨(39 :: s.data.toList ++ [39]).toArray⟩) ∧ Cls w w' := by
  have h24 : s.size ≤ 24 := by simp [vB, textB] at h; exact h.2.1
  have HV := Lib.hid h
  clear h
  go_enter Tryd.func10, Tryd.ntmps10
  go_wp2_with (first | (go_at_call 29; ((with_reducible refine (Valid_is _ _ _ _ _ hs HV.out).mono ?_); rintro e _ ⟨rfl, y, rfl⟩)))
  go_ret
  refine ⟨ret_str (quoted s), ?_⟩
  refine Cls.of ?_
  repeat first | with_reducible exact Below.refl _ _ | with_reducible refine Below.setCell ?_ (by first | omega | (simp; done) | (simp; omega)) _ | with_reducible refine Below.alloc ?_ (by first | omega | (simp; done) | (simp; omega)) _ | with_reducible refine Below.drew ?_ | with_reducible refine Ext.on _ ?_ (by first | omega | (simp; done) | (simp; omega))
set_option maxHeartbeats 1000000 in
theorem Text_null (n : Int) (s : ByteArray) (w : World) (hs : s.size ≤ maxLen) (h : vB 0 n s = true) :
    Calls Tryd.prog 10 #[.agg #[.int .i64 0, .int .i64 n, .string s]] w fun e w' => e = .returned (.string ⟨#[110, 117, 108, 108]⟩) ∧ Cls w w' := by
  have HV := Lib.hid h
  clear h
  go_enter Tryd.func10, Tryd.ntmps10
  go_wp2_with (first | (go_at_call 29; ((with_reducible refine (Valid_is _ _ _ _ _ hs HV.out).mono ?_); rintro e _ ⟨rfl, y, rfl⟩)))
  go_ret
  refine ⟨ret_str rfl, ?_⟩
  refine Cls.of ?_
  repeat first | with_reducible exact Below.refl _ _ | with_reducible refine Below.setCell ?_ (by first | omega | (simp; done) | (simp; omega)) _ | with_reducible refine Below.alloc ?_ (by first | omega | (simp; done) | (simp; omega)) _ | with_reducible refine Below.drew ?_ | with_reducible refine Ext.on _ ?_ (by first | omega | (simp; done) | (simp; omega))
theorem Text_calls (k n : Int) (s : ByteArray) (w : World) (hs : s.size ≤ maxLen) (ht : Tab w) :
    Calls Tryd.prog 10 #[.agg #[.int .i64 k, .int .i64 n, .string s]] w fun e w' => e = .returned (.string ⟨(txt k n s).toArray⟩) ∧ Cls w w' := by
  cases h : vB k n s
  · rw [show txt k n s = [63] by simp [txt, h]]; exact Text_bad k n s w hs h
  · by_cases h1 : k = 1
    · subst h1
      rw [show txt 1 n s = Lib.itoa n by simp [txt, h]]; exact Text_num n s w hs h ht
    · by_cases h2 : k = 2
      · subst h2
        have h3 : n = 0 ∨ n = 1 := by simp [vB] at h; exact h.1
        rcases h3 with rfl | rfl
        · rw [show txt 2 0 s = [102, 97, 108, 115, 101] by simp [txt, h]]; exact Text_no s w hs h
        · rw [show txt 2 1 s = [116, 114, 117, 101] by simp [txt, h]]; exact Text_yes s w hs h
      · by_cases h3 : k = 3
        · subst h3
          rw [show txt 3 n s = 39 :: s.data.toList ++ [39] by simp [txt, h]]; exact Text_text n s w hs h
        · have h0 : k = 0 := by
            rcases Classical.em (k = 0) with h0 | h0
            · exact h0
            · simp [vB, h0, h1, h2, h3] at h
          subst h0
          rw [show txt 0 n s = [110, 117, 108, 108] by simp [txt, h]]; exact Text_null n s w hs h
set_option maxHeartbeats 1000000 in
theorem rText_bad (k n : Int) (s : ByteArray) (w : World) (hs : s.size ≤ maxLen) (h : vB k n s = false) :
    Calls Tryd.prog 11 #[.agg #[.int .i64 k, .int .i64 n, .string s]] w fun e w' => e = .returned (.string ⟨#[63]⟩) ∧ Cls w w' := by
  have HV := Lib.hid h
  clear h
  go_enter Tryd.func11, Tryd.ntmps11
  go_wp2_with (first | (go_at_call 12; ((with_reducible refine (rValid_is _ _ _ _ _ hs HV.out).mono ?_); rintro e _ ⟨rfl, y, rfl⟩)))
  go_ret
  refine ⟨ret_str rfl, ?_⟩
  refine Cls.of ?_
  repeat first | with_reducible exact Below.refl _ _ | with_reducible refine Below.setCell ?_ (by first | omega | (simp; done) | (simp; omega)) _ | with_reducible refine Below.alloc ?_ (by first | omega | (simp; done) | (simp; omega)) _ | with_reducible refine Below.drew ?_ | with_reducible refine Ext.on _ ?_ (by first | omega | (simp; done) | (simp; omega))
set_option maxHeartbeats 1000000 in
theorem rText_num (n : Int) (s : ByteArray) (w : World) (hs : s.size ≤ maxLen) (h : vB 1 n s = true) (ht : Tab w) :
    Calls Tryd.prog 11 #[.agg #[.int .i64 1, .int .i64 n, .string s]] w fun e w' => e = .returned (.string ⟨(Lib.itoa n).toArray⟩) ∧ Cls w w' := by
  have hb : -1000000000000 ≤ n ∧ n ≤ 1000000000000 := by simp [vB] at h; exact h.1
  have HT : Hid (∀ w', Below (w.alloc (.cells #[.int .i64 1, .int .i64 n, .string s] 23)).heap.size (w.alloc (.cells #[.int .i64 1, .int .i64 n, .string s] 23)) w' → Tab w') := Lib.hid (fun w' hw => (ht.later ((Below.refl _ _).alloc (Nat.le_refl _) _)).later hw)
  clear ht
  have HV := Lib.hid h
  clear h
  go_enter Tryd.func11, Tryd.ntmps11
  go_wp2_with (first | (go_at_call 12; ((with_reducible refine (rValid_is _ _ _ _ _ hs HV.out).mono ?_); rintro e _ ⟨rfl, y, rfl⟩)) | (go_at_call 31; ((with_reducible refine (Cls.call (fmt_calls n _ hb (HT.out _ (Ext.below _)))).mono ?_); rintro e _ ⟨rfl, y, rfl⟩)))
  go_ret
  refine ⟨ret_str rfl, ?_⟩
  refine Cls.of ?_
  repeat first | with_reducible exact Below.refl _ _ | with_reducible refine Below.setCell ?_ (by first | omega | (simp; done) | (simp; omega)) _ | with_reducible refine Below.alloc ?_ (by first | omega | (simp; done) | (simp; omega)) _ | with_reducible refine Below.drew ?_ | with_reducible refine Ext.on _ ?_ (by first | omega | (simp; done) | (simp; omega))
set_option maxHeartbeats 1000000 in
theorem rText_yes (s : ByteArray) (w : World) (hs : s.size ≤ maxLen) (h : vB 2 1 s = true) :
    Calls Tryd.prog 11 #[.agg #[.int .i64 2, .int .i64 1, .string s]] w fun e w' => e = .returned (.string ⟨#[116, 114, 117, 101]⟩) ∧ Cls w w' := by
  have HV := Lib.hid h
  clear h
  have ht : truT 2 1 = 1 := rfl
  go_enter Tryd.func11, Tryd.ntmps11
  go_wp2_with (first | (go_at_call 12; ((with_reducible refine (rValid_is _ _ _ _ _ hs HV.out).mono ?_); rintro e _ ⟨rfl, y, rfl⟩)) | (go_at_call 32; ((with_reducible refine (Cls.call (Truth_calls _ _ _ _)).mono ?_); rintro e _ ⟨rfl, y, rfl⟩)))
  go_ret
  refine ⟨ret_str rfl, ?_⟩
  refine Cls.of ?_
  repeat first | with_reducible exact Below.refl _ _ | with_reducible refine Below.setCell ?_ (by first | omega | (simp; done) | (simp; omega)) _ | with_reducible refine Below.alloc ?_ (by first | omega | (simp; done) | (simp; omega)) _ | with_reducible refine Below.drew ?_ | with_reducible refine Ext.on _ ?_ (by first | omega | (simp; done) | (simp; omega))
set_option maxHeartbeats 1000000 in
theorem rText_no (s : ByteArray) (w : World) (hs : s.size ≤ maxLen) (h : vB 2 0 s = true) :
    Calls Tryd.prog 11 #[.agg #[.int .i64 2, .int .i64 0, .string s]] w fun e w' => e = .returned (.string ⟨#[102, 97, 108, 115, 101]⟩) ∧ Cls w w' := by
  have HV := Lib.hid h
  clear h
  have ht : truT 2 0 = 0 := rfl
  go_enter Tryd.func11, Tryd.ntmps11
  go_wp2_with (first | (go_at_call 12; ((with_reducible refine (rValid_is _ _ _ _ _ hs HV.out).mono ?_); rintro e _ ⟨rfl, y, rfl⟩)) | (go_at_call 32; ((with_reducible refine (Cls.call (Truth_calls _ _ _ _)).mono ?_); rintro e _ ⟨rfl, y, rfl⟩)))
  go_ret
  refine ⟨ret_str rfl, ?_⟩
  refine Cls.of ?_
  repeat first | with_reducible exact Below.refl _ _ | with_reducible refine Below.setCell ?_ (by first | omega | (simp; done) | (simp; omega)) _ | with_reducible refine Below.alloc ?_ (by first | omega | (simp; done) | (simp; omega)) _ | with_reducible refine Below.drew ?_ | with_reducible refine Ext.on _ ?_ (by first | omega | (simp; done) | (simp; omega))
set_option maxHeartbeats 1000000 in
theorem rText_text (n : Int) (s : ByteArray) (w : World) (hs : s.size ≤ maxLen) (h : vB 3 n s = true) :
    Calls Tryd.prog 11 #[.agg #[.int .i64 3, .int .i64 n, .string s]] w fun e w' => e = .returned (.string ⟨(39 :: s.data.toList ++ [39]).toArray⟩) ∧ Cls w w' := by
  have h24 : s.size ≤ 24 := by simp [vB, textB] at h; exact h.2.1
  have HV := Lib.hid h
  clear h
  go_enter Tryd.func11, Tryd.ntmps11
  go_wp2_with (first | (go_at_call 12; ((with_reducible refine (rValid_is _ _ _ _ _ hs HV.out).mono ?_); rintro e _ ⟨rfl, y, rfl⟩)))
  go_ret
  refine ⟨ret_str (quoted s), ?_⟩
  refine Cls.of ?_
  repeat first | with_reducible exact Below.refl _ _ | with_reducible refine Below.setCell ?_ (by first | omega | (simp; done) | (simp; omega)) _ | with_reducible refine Below.alloc ?_ (by first | omega | (simp; done) | (simp; omega)) _ | with_reducible refine Below.drew ?_ | with_reducible refine Ext.on _ ?_ (by first | omega | (simp; done) | (simp; omega))
set_option maxHeartbeats 1000000 in
theorem rText_null (n : Int) (s : ByteArray) (w : World) (hs : s.size ≤ maxLen) (h : vB 0 n s = true) :
    Calls Tryd.prog 11 #[.agg #[.int .i64 0, .int .i64 n, .string s]] w fun e w' => e = .returned (.string ⟨#[110, 117, 108, 108]⟩) ∧ Cls w w' := by
  have HV := Lib.hid h
  clear h
  go_enter Tryd.func11, Tryd.ntmps11
  go_wp2_with (first | (go_at_call 12; ((with_reducible refine (rValid_is _ _ _ _ _ hs HV.out).mono ?_); rintro e _ ⟨rfl, y, rfl⟩)))
  go_ret
  refine ⟨ret_str rfl, ?_⟩
  refine Cls.of ?_
  repeat first | with_reducible exact Below.refl _ _ | with_reducible refine Below.setCell ?_ (by first | omega | (simp; done) | (simp; omega)) _ | with_reducible refine Below.alloc ?_ (by first | omega | (simp; done) | (simp; omega)) _ | with_reducible refine Below.drew ?_ | with_reducible refine Ext.on _ ?_ (by first | omega | (simp; done) | (simp; omega))
theorem rText_calls (k n : Int) (s : ByteArray) (w : World) (hs : s.size ≤ maxLen) (ht : Tab w) :
    Calls Tryd.prog 11 #[.agg #[.int .i64 k, .int .i64 n, .string s]] w fun e w' => e = .returned (.string ⟨(txt k n s).toArray⟩) ∧ Cls w w' := by
  cases h : vB k n s
  · rw [show txt k n s = [63] by simp [txt, h]]; exact rText_bad k n s w hs h
  · by_cases h1 : k = 1
    · subst h1
      rw [show txt 1 n s = Lib.itoa n by simp [txt, h]]; exact rText_num n s w hs h ht
    · by_cases h2 : k = 2
      · subst h2
        have h3 : n = 0 ∨ n = 1 := by simp [vB] at h; exact h.1
        rcases h3 with rfl | rfl
        · rw [show txt 2 0 s = [102, 97, 108, 115, 101] by simp [txt, h]]; exact rText_no s w hs h
        · rw [show txt 2 1 s = [116, 114, 117, 101] by simp [txt, h]]; exact rText_yes s w hs h
      · by_cases h3 : k = 3
        · subst h3
          rw [show txt 3 n s = 39 :: s.data.toList ++ [39] by simp [txt, h]]; exact rText_text n s w hs h
        · have h0 : k = 0 := by
            rcases Classical.em (k = 0) with h0 | h0
            · exact h0
            · simp [vB, h0, h1, h2, h3] at h
          subst h0
          rw [show txt 0 n s = [110, 117, 108, 108] by simp [txt, h]]; exact rText_null n s w hs h
end Go.Proofs.YtmjaieceknhnbaaDoor
