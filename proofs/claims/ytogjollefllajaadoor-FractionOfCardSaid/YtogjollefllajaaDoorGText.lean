/-
  The texts of fractions, of the program and of the reference: the same bytes.
-/
import Derived.Test.YtogjollefllajaaDoorFOrdM
import Derived.Test.YtogjollefllajaaDoorFOf
import Derived.Test.YtogjollefllajaaDoorShelf
import Derived.Lib.AppendIntMem
import Derived.Lib.ItoaLen
import Derived.WalkSmall
import Derived.ChangeOld
set_option linter.unusedVariables false
namespace Go.Proofs.YtogjollefllajaaDoor
open Go Go.RowKit Go.Deep
/-- The text of a fraction: its bytes. -/
def txF (n d : Int) : List UInt8 := if vaB n d = true then if d = 1 then Lib.itoa n else Lib.itoa n ++ 47 :: Lib.itoa d else [63]
/-- strconv's table reads as it stands in the program. -/
def Tab (w : World) : Prop := Lib.TabIs Tryd.prog w "internal/strconv.uint64pow10" .u64 Lib.pow10Tab
theorem Tab.later {w w' : World} (h : Tab w) (hb : Below w.heap.size w w') : Tab w' := by
  refine var?_below (g := 0) hb (by kernel_rfl) ?_ h
  rcases Nat.lt_or_ge 0 w.heap.size with h' | h'
  · exact h'
  · unfold Tab Lib.TabIs World.var? at h
    rw [show Tryd.prog.globalNamed "internal/strconv.uint64pow10" = some 0 by kernel_rfl] at h
    simp [Array.getElem?_eq_none h'] at h
theorem fmt_calls (n : Int) (w : World) (h : -100000000000000000 ≤ n ∧ n ≤ 100000000000000000) (ht : Tab w) :
    Calls Tryd.prog 25 #[.int .i64 n, .int .i64 10] w fun e w' => e = .returned (.string ⟨(Lib.itoa n).toArray⟩) ∧ Cls w w' :=
  (Tryd.strconv_FormatInt_10 n (by omega) (by omega) w ht).mono fun _ _ ⟨he, k, os, hw⟩ => ⟨he, Cls.of (by rw [hw]; exact Lib.below_grow _ w (Nat.le_refl _) k os)⟩
theorem itoa_size {n : Int} (h : -100000000000000000 ≤ n ∧ n ≤ 100000000000000000) : (⟨(Lib.itoa n).toArray⟩ : ByteArray).size ≤ 21 := by
  have e : (⟨(Lib.itoa n).toArray⟩ : ByteArray).size = (Lib.itoa n).length := by show (Lib.itoa n).toArray.size = _; simp
  rw [e]; exact Lib.itoa_length_le n (by omega) (by omega)
theorem ret_str {a b : ByteArray} (h : a = b) : Ending.returned (.string a) = .returned (.string b) := by rw [h]
theorem cat_l (a b : List UInt8) : (⟨a.toArray⟩ : ByteArray) ++ (⟨#[47]⟩ : ByteArray) ++ (⟨b.toArray⟩ : ByteArray) = ⟨(a ++ 47 :: b).toArray⟩ := by
  apply ByteArray.ext
  simp
theorem cat_r (a b : List UInt8) : (⟨a.toArray⟩ : ByteArray) ++ ((⟨#[47]⟩ : ByteArray) ++ (⟨b.toArray⟩ : ByteArray)) = ⟨(a ++ 47 :: b).toArray⟩ := by
  apply ByteArray.ext
  simp
set_option maxHeartbeats 2000000 in
set_option maxRecDepth 20000 in
theorem Text_bad (n d : Int) (w : World) (h1 : In64 n) (h2 : In64 d) (h : vaB n d = false) :
    Calls Tryd.prog 10 #[.agg #[.int .i64 n, .int .i64 d]] w fun e w' => e = .returned (.string ⟨#[63]⟩) ∧ Cls w w' := by
  have C1 := Lib.hid (fun W => Valid_calls n d W h1.1 h1.2 h2.1 h2.2)
  rw [h] at C1
  clear h h1 h2
  go_enter Tryd.func10, Tryd.ntmps10
  go_wp2_with (go_at_call 17; (with_reducible refine (C1.out _).mono ?_); rintro e _ ⟨rfl, ⟨y1, rfl⟩⟩)
  go_ret
  refine ⟨ret_str rfl, Cls.of ?_⟩
  repeat first | with_reducible exact Below.refl _ _ | with_reducible refine Below.setCell ?_ (by first | omega | (simp; done) | (simp; omega)) _ | with_reducible refine Below.alloc ?_ (by first | omega | (simp; done) | (simp; omega)) _ | with_reducible refine Below.drew ?_ | with_reducible refine Ext.on _ ?_ (by first | omega | (simp; done) | (simp; omega))
set_option maxHeartbeats 4000000 in
set_option maxRecDepth 20000 in
theorem Text_whole (n : Int) (w : World) (h1 : In64 n) (h2 : In64 1) (h : vaB n 1 = true) (ht : Tab w) :
    Calls Tryd.prog 10 #[.agg #[.int .i64 n, .int .i64 1]] w fun e w' => e = .returned (.string ⟨(Lib.itoa n).toArray⟩) ∧ Cls w w' := by
  have C1 := Lib.hid (fun W => Valid_calls n 1 W h1.1 h1.2 h2.1 h2.2)
  rw [h] at C1
  obtain ⟨_, _, b1, b2⟩ := vaB_rng h
  have C2 := Lib.hid (fun (W : World) (hb : Below w.heap.size w W) => fmt_calls n W ⟨b1, b2⟩ (ht.later hb))
  clear h ht h1 h2 b1 b2
  generalize Lib.itoa n = sn at *
  go_enter Tryd.func10, Tryd.ntmps10
  go_wp2_with (first | (go_at_call 17; (with_reducible refine (C1.out _).mono ?_); rintro e _ ⟨rfl, ⟨y1, rfl⟩⟩; have y1s := y1.size; (try simp at y1s); have y1a : w.heap.size < y1.val.heap.size := (by omega)) | (go_at_call 25; (with_reducible refine Calls.mono (C2.out _ ?_) ?_); (focus (repeat first | with_reducible exact Below.refl _ _ | with_reducible refine Below.setCell ?_ (by first | omega | (simp; done) | (simp; omega)) _ | with_reducible refine Below.alloc ?_ (by first | omega | (simp; done) | (simp; omega)) _ | with_reducible refine Below.drew ?_ | with_reducible refine Ext.on _ ?_ (by first | omega | (simp; done) | (simp; omega)))); rintro e _ ⟨rfl, ⟨y2, rfl⟩⟩; have y2s := y2.size; have y2a : w.heap.size < y2.val.heap.size := (by omega)))
  go_ret
  refine ⟨ret_str rfl, Cls.of ?_⟩
  repeat first | with_reducible exact Below.refl _ _ | with_reducible refine Below.setCell ?_ (by first | omega | (simp; done) | (simp; omega)) _ | with_reducible refine Below.alloc ?_ (by first | omega | (simp; done) | (simp; omega)) _ | with_reducible refine Below.drew ?_ | with_reducible refine Ext.on _ ?_ (by first | omega | (simp; done) | (simp; omega))
set_option maxHeartbeats 4000000 in
set_option maxRecDepth 20000 in
theorem Text_frac (n d : Int) (w : World) (h1 : In64 n) (h2 : In64 d) (h : vaB n d = true) (hd : d ≠ 1) (ht : Tab w) :
    Calls Tryd.prog 10 #[.agg #[.int .i64 n, .int .i64 d]] w fun e w' => e = .returned (.string ⟨(Lib.itoa n ++ 47 :: Lib.itoa d).toArray⟩) ∧ Cls w w' := by
  have C1 := Lib.hid (fun W => Valid_calls n d W h1.1 h1.2 h2.1 h2.2)
  rw [h] at C1
  obtain ⟨c1, c2, b1, b2⟩ := vaB_rng h
  have C2 := Lib.hid (fun (W : World) (hb : Below w.heap.size w W) => fmt_calls n W ⟨b1, b2⟩ (ht.later hb))
  have C3 := Lib.hid (fun (W : World) (hb : Below w.heap.size w W) => fmt_calls d W ⟨by omega, c2⟩ (ht.later hb))
  have z1 := itoa_size ⟨b1, b2⟩
  have z2 := itoa_size (n := d) ⟨by omega, c2⟩
  have d1 : (d == 1) = false := by simpa using hd
  have d2 : (d != 1) = true := by simpa using hd
  rw [← cat_l]
  clear h ht h1 h2 b1 b2 c1 c2 hd
  generalize (⟨(Lib.itoa n).toArray⟩ : ByteArray) = sn at *
  generalize (⟨(Lib.itoa d).toArray⟩ : ByteArray) = sd at *
  go_enter Tryd.func10, Tryd.ntmps10
  go_wp2_with (first | (go_at_call 17; (with_reducible refine (C1.out _).mono ?_); rintro e _ ⟨rfl, ⟨y1, rfl⟩⟩; have y1s := y1.size; (try simp at y1s); have y1a : w.heap.size < y1.val.heap.size := (by omega)) | (go_at_call 25; (with_reducible refine Calls.mono (C2.out _ ?_) ?_); (focus (repeat first | with_reducible exact Below.refl _ _ | with_reducible refine Below.setCell ?_ (by first | omega | (simp; done) | (simp; omega)) _ | with_reducible refine Below.alloc ?_ (by first | omega | (simp; done) | (simp; omega)) _ | with_reducible refine Below.drew ?_ | with_reducible refine Ext.on _ ?_ (by first | omega | (simp; done) | (simp; omega)))); rintro e _ ⟨rfl, ⟨y2, rfl⟩⟩; have y2s := y2.size; have y2a : w.heap.size < y2.val.heap.size := (by omega)) | (go_at_call 25; (with_reducible refine Calls.mono (C3.out _ ?_) ?_); (focus (repeat first | with_reducible exact Below.refl _ _ | with_reducible refine Below.setCell ?_ (by first | omega | (simp; done) | (simp; omega)) _ | with_reducible refine Below.alloc ?_ (by first | omega | (simp; done) | (simp; omega)) _ | with_reducible refine Below.drew ?_ | with_reducible refine Ext.on _ ?_ (by first | omega | (simp; done) | (simp; omega)))); rintro e _ ⟨rfl, ⟨y3, rfl⟩⟩; have y3s := y3.size; have y3a : w.heap.size < y3.val.heap.size := (by omega)))
  go_ret
  refine ⟨ret_str rfl, Cls.of ?_⟩
  repeat first | with_reducible exact Below.refl _ _ | with_reducible refine Below.setCell ?_ (by first | omega | (simp; done) | (simp; omega)) _ | with_reducible refine Below.alloc ?_ (by first | omega | (simp; done) | (simp; omega)) _ | with_reducible refine Below.drew ?_ | with_reducible refine Ext.on _ ?_ (by first | omega | (simp; done) | (simp; omega))
theorem Text_calls (n d : Int) (w : World) (h1 : In64 n) (h2 : In64 d) (ht : Tab w) :
    Calls Tryd.prog 10 #[.agg #[.int .i64 n, .int .i64 d]] w fun e w' => e = .returned (.string ⟨(txF n d).toArray⟩) ∧ Cls w w' := by
  cases h : vaB n d
  · rw [show txF n d = [63] by simp [txF, h]]; exact Text_bad n d w h1 h2 h
  · by_cases hd : d = 1
    · subst hd
      rw [show txF n 1 = Lib.itoa n by simp [txF, h]]; exact Text_whole n w h1 h2 h ht
    · rw [show txF n d = Lib.itoa n ++ 47 :: Lib.itoa d by simp [txF, h, hd]]; exact Text_frac n d w h1 h2 h hd ht
set_option maxHeartbeats 2000000 in
set_option maxRecDepth 20000 in
theorem rText_bad (n d : Int) (w : World) (h1 : In64 n) (h2 : In64 d) (h : vaB n d = false) :
    Calls Tryd.prog 11 #[.agg #[.int .i64 n, .int .i64 d]] w fun e w' => e = .returned (.string ⟨#[63]⟩) ∧ Cls w w' := by
  have C1 := Lib.hid (fun W => rValid_calls n d W)
  rw [h] at C1
  clear h h1 h2
  go_enter Tryd.func11, Tryd.ntmps11
  go_wp2_with (go_at_call 20; (with_reducible refine (C1.out _).mono ?_); rintro e _ ⟨rfl, ⟨y1, rfl⟩⟩)
  go_ret
  refine ⟨ret_str rfl, Cls.of ?_⟩
  repeat first | with_reducible exact Below.refl _ _ | with_reducible refine Below.setCell ?_ (by first | omega | (simp; done) | (simp; omega)) _ | with_reducible refine Below.alloc ?_ (by first | omega | (simp; done) | (simp; omega)) _ | with_reducible refine Below.drew ?_ | with_reducible refine Ext.on _ ?_ (by first | omega | (simp; done) | (simp; omega))
set_option maxHeartbeats 4000000 in
set_option maxRecDepth 20000 in
theorem rText_whole (n : Int) (w : World) (h1 : In64 n) (h2 : In64 1) (h : vaB n 1 = true) (ht : Tab w) :
    Calls Tryd.prog 11 #[.agg #[.int .i64 n, .int .i64 1]] w fun e w' => e = .returned (.string ⟨(Lib.itoa n).toArray⟩) ∧ Cls w w' := by
  have C1 := Lib.hid (fun W => rValid_calls n 1 W)
  rw [h] at C1
  obtain ⟨_, _, b1, b2⟩ := vaB_rng h
  have C2 := Lib.hid (fun (W : World) (hb : Below w.heap.size w W) => fmt_calls n W ⟨b1, b2⟩ (ht.later hb))
  clear h ht h1 h2 b1 b2
  generalize Lib.itoa n = sn at *
  go_enter Tryd.func11, Tryd.ntmps11
  go_wp2_with (first | (go_at_call 20; (with_reducible refine (C1.out _).mono ?_); rintro e _ ⟨rfl, ⟨y1, rfl⟩⟩; have y1s := y1.size; (try simp at y1s); have y1a : w.heap.size < y1.val.heap.size := (by omega)) | (go_at_call 25; (with_reducible refine Calls.mono (C2.out _ ?_) ?_); (focus (repeat first | with_reducible exact Below.refl _ _ | with_reducible refine Below.setCell ?_ (by first | omega | (simp; done) | (simp; omega)) _ | with_reducible refine Below.alloc ?_ (by first | omega | (simp; done) | (simp; omega)) _ | with_reducible refine Below.drew ?_ | with_reducible refine Ext.on _ ?_ (by first | omega | (simp; done) | (simp; omega)))); rintro e _ ⟨rfl, ⟨y2, rfl⟩⟩; have y2s := y2.size; have y2a : w.heap.size < y2.val.heap.size := (by omega)))
  go_ret
  refine ⟨ret_str rfl, Cls.of ?_⟩
  repeat first | with_reducible exact Below.refl _ _ | with_reducible refine Below.setCell ?_ (by first | omega | (simp; done) | (simp; omega)) _ | with_reducible refine Below.alloc ?_ (by first | omega | (simp; done) | (simp; omega)) _ | with_reducible refine Below.drew ?_ | with_reducible refine Ext.on _ ?_ (by first | omega | (simp; done) | (simp; omega))
set_option maxHeartbeats 4000000 in
set_option maxRecDepth 20000 in
theorem rText_frac (n d : Int) (w : World) (h1 : In64 n) (h2 : In64 d) (h : vaB n d = true) (hd : d ≠ 1) (ht : Tab w) :
    Calls Tryd.prog 11 #[.agg #[.int .i64 n, .int .i64 d]] w fun e w' => e = .returned (.string ⟨(Lib.itoa n ++ 47 :: Lib.itoa d).toArray⟩) ∧ Cls w w' := by
  have C1 := Lib.hid (fun W => rValid_calls n d W)
  rw [h] at C1
  obtain ⟨c1, c2, b1, b2⟩ := vaB_rng h
  have C2 := Lib.hid (fun (W : World) (hb : Below w.heap.size w W) => fmt_calls n W ⟨b1, b2⟩ (ht.later hb))
  have C3 := Lib.hid (fun (W : World) (hb : Below w.heap.size w W) => fmt_calls d W ⟨by omega, c2⟩ (ht.later hb))
  have z1 := itoa_size ⟨b1, b2⟩
  have z2 := itoa_size (n := d) ⟨by omega, c2⟩
  have d1 : (d == 1) = false := by simpa using hd
  have d2 : (d != 1) = true := by simpa using hd
  rw [← cat_r]
  clear h ht h1 h2 b1 b2 c1 c2 hd
  generalize (⟨(Lib.itoa n).toArray⟩ : ByteArray) = sn at *
  generalize (⟨(Lib.itoa d).toArray⟩ : ByteArray) = sd at *
  go_enter Tryd.func11, Tryd.ntmps11
  go_wp2_with (first | (go_at_call 20; (with_reducible refine (C1.out _).mono ?_); rintro e _ ⟨rfl, ⟨y1, rfl⟩⟩; have y1s := y1.size; (try simp at y1s); have y1a : w.heap.size < y1.val.heap.size := (by omega)) | (go_at_call 25; (with_reducible refine Calls.mono (C2.out _ ?_) ?_); (focus (repeat first | with_reducible exact Below.refl _ _ | with_reducible refine Below.setCell ?_ (by first | omega | (simp; done) | (simp; omega)) _ | with_reducible refine Below.alloc ?_ (by first | omega | (simp; done) | (simp; omega)) _ | with_reducible refine Below.drew ?_ | with_reducible refine Ext.on _ ?_ (by first | omega | (simp; done) | (simp; omega)))); rintro e _ ⟨rfl, ⟨y2, rfl⟩⟩; have y2s := y2.size; have y2a : w.heap.size < y2.val.heap.size := (by omega)) | (go_at_call 25; (with_reducible refine Calls.mono (C3.out _ ?_) ?_); (focus (repeat first | with_reducible exact Below.refl _ _ | with_reducible refine Below.setCell ?_ (by first | omega | (simp; done) | (simp; omega)) _ | with_reducible refine Below.alloc ?_ (by first | omega | (simp; done) | (simp; omega)) _ | with_reducible refine Below.drew ?_ | with_reducible refine Ext.on _ ?_ (by first | omega | (simp; done) | (simp; omega)))); rintro e _ ⟨rfl, ⟨y3, rfl⟩⟩; have y3s := y3.size; have y3a : w.heap.size < y3.val.heap.size := (by omega)))
  go_ret
  refine ⟨ret_str rfl, Cls.of ?_⟩
  repeat first | with_reducible exact Below.refl _ _ | with_reducible refine Below.setCell ?_ (by first | omega | (simp; done) | (simp; omega)) _ | with_reducible refine Below.alloc ?_ (by first | omega | (simp; done) | (simp; omega)) _ | with_reducible refine Below.drew ?_ | with_reducible refine Ext.on _ ?_ (by first | omega | (simp; done) | (simp; omega))
theorem rText_calls (n d : Int) (w : World) (h1 : In64 n) (h2 : In64 d) (ht : Tab w) :
    Calls Tryd.prog 11 #[.agg #[.int .i64 n, .int .i64 d]] w fun e w' => e = .returned (.string ⟨(txF n d).toArray⟩) ∧ Cls w w' := by
  cases h : vaB n d
  · rw [show txF n d = [63] by simp [txF, h]]; exact rText_bad n d w h1 h2 h
  · by_cases hd : d = 1
    · subst hd
      rw [show txF n 1 = Lib.itoa n by simp [txF, h]]; exact rText_whole n w h1 h2 h ht
    · rw [show txF n d = Lib.itoa n ++ 47 :: Lib.itoa d by simp [txF, h, hd]]; exact rText_frac n d w h1 h2 h hd ht
end Go.Proofs.YtogjollefllajaaDoor
