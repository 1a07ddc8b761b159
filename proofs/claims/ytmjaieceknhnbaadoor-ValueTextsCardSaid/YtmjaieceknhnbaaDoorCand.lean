/-
  What candidate gives: the value whose text the string is, if there is one.
-/
import Derived.Test.YtmjaieceknhnbaaDoorUniq
import Derived.Lib.AtoiErrMem
set_option linter.unusedVariables false
namespace Go.Proofs.YtmjaieceknhnbaaDoor
open Go Go.RowKit Lib
theorem toList_loop (s : ByteArray) : ∀ (j i : Nat) (r : List UInt8), s.size - i = j → ByteArray.toList.loop s i r = r.reverse ++ s.data.toList.drop i := by
  intro j
  induction j with
  | zero =>
    intro i r h
    rw [ByteArray.toList.loop, if_neg (by omega), List.drop_eq_nil_of_le (by rw [Array.length_toList]; show s.size ≤ i; omega), List.append_nil]
  | succ j ih =>
    intro i r h
    have hi : i < s.data.toList.length := by rw [Array.length_toList]; show i < s.size; omega
    rw [ByteArray.toList.loop, if_pos (by omega), ih _ _ (by omega), List.drop_eq_getElem_cons hi, List.reverse_cons, List.append_assoc]
    have hg : s.get! i = s.data.toList[i] := by
      show s.data[i]! = _
      rw [getElem!_pos s.data i (by simpa using hi)]; simp
    rw [hg]; rfl
theorem toList_data (s : ByteArray) : s.toList = s.data.toList := by
  unfold ByteArray.toList; rw [toList_loop s _ 0 [] rfl]; rfl
set_option maxHeartbeats 1000000 in
theorem cand_null (w : World) :
    Calls Tryd.prog 28 #[.string ⟨#[110, 117, 108, 108]⟩] w fun e w' => e = .returned (.tuple #[.agg #[.int .i64 0, .int .i64 0, .string ByteArray.empty], .bool true]) ∧ Cls w w' := by
  go_enter Tryd.func28, Tryd.ntmps28
  go_wp2_with fail
  refine ret_ex rfl ?_
  simp [results, Tryd.results28, go_sem]
  refine ⟨rfl, ?_⟩
  refine Cls.of ?_
  repeat first | with_reducible exact Below.refl _ _ | with_reducible refine Below.setCell ?_ (by first | omega | (simp; done) | (simp; omega)) _ | with_reducible refine Below.alloc ?_ (by first | omega | (simp; done) | (simp; omega)) _ | with_reducible refine Below.drew ?_ | with_reducible refine Ext.on _ ?_ (by first | omega | (simp; done) | (simp; omega))
set_option maxHeartbeats 1000000 in
theorem cand_quote (s : ByteArray) (w : World) (hs : s.size ≤ 281474976710656) (h1 : (s.toList == [110, 117, 108, 108]) = false) (h2 : (s.toList == [116, 114, 117, 101]) = false) (h3 : (s.toList == [102, 97, 108, 115, 101]) = false)
   (h4 : 2 ≤ s.size) (h5 : s[0] = 39) :
    Calls Tryd.prog 28 #[.string s] w fun e w' => e = .returned (.tuple #[.agg #[.int .i64 3, .int .i64 0, .string (s.extract 1 (s.size - 1))], .bool true]) ∧ Cls w w' := by
  have hw : wrap64 ((s.size : Int) - 1) = (s.size : Int) - 1 := by unfold wrap64; omega
  have hsl := fun wx => run_slice_string (P := Tryd.prog) wx 9 s .i64 .i64 1 ((s.size : Int) - 1) Tryd.underlying9 (by omega) (by omega) (by omega)
  have e1 : s.extract 1 (s.size - 1) = s.extract (Int.toNat 1) (Int.toNat ((s.size : Int) - 1)) := by congr 1; omega
  rw [e1]
  go_enter Tryd.func28, Tryd.ntmps28
  go_wp2_with fail
  refine ret_ex rfl ?_
  simp [results, Tryd.results28, go_sem]
  refine Cls.of ?_
  repeat first | with_reducible exact Below.refl _ _ | with_reducible refine Below.setCell ?_ (by first | omega | (simp; done) | (simp; omega)) _ | with_reducible refine Below.alloc ?_ (by first | omega | (simp; done) | (simp; omega)) _ | with_reducible refine Below.drew ?_ | with_reducible refine Ext.on _ ?_ (by first | omega | (simp; done) | (simp; omega))
theorem bool_yes (w : World) : Calls Tryd.prog 61 #[.int .i64 1] w fun e w' => e = .returned (.agg #[.int .i64 2, .int .i64 1, .string ByteArray.empty]) ∧ Cls w w' := by
  go_enter Tryd.func61, Tryd.ntmps61
  go_wp2_with fail
  refine ret_ex rfl ?_
  simp [results, Tryd.results61, go_sem]
  refine ⟨rfl, ?_⟩
  refine Cls.of ?_
  repeat first | with_reducible exact Below.refl _ _ | with_reducible refine Below.setCell ?_ (by first | omega | (simp; done) | (simp; omega)) _ | with_reducible refine Below.alloc ?_ (by first | omega | (simp; done) | (simp; omega)) _ | with_reducible refine Below.drew ?_ | with_reducible refine Ext.on _ ?_ (by first | omega | (simp; done) | (simp; omega))
theorem bool_no (w : World) : Calls Tryd.prog 61 #[.int .i64 0] w fun e w' => e = .returned (.agg #[.int .i64 2, .int .i64 0, .string ByteArray.empty]) ∧ Cls w w' := by
  go_enter Tryd.func61, Tryd.ntmps61
  go_wp2_with fail
  refine ret_ex rfl ?_
  simp [results, Tryd.results61, go_sem]
  refine ⟨rfl, ?_⟩
  refine Cls.of ?_
  repeat first | with_reducible exact Below.refl _ _ | with_reducible refine Below.setCell ?_ (by first | omega | (simp; done) | (simp; omega)) _ | with_reducible refine Below.alloc ?_ (by first | omega | (simp; done) | (simp; omega)) _ | with_reducible refine Below.drew ?_ | with_reducible refine Ext.on _ ?_ (by first | omega | (simp; done) | (simp; omega))
set_option maxHeartbeats 1000000 in
theorem cand_yes (w : World) :
    Calls Tryd.prog 28 #[.string ⟨#[116, 114, 117, 101]⟩] w fun e w' => e = .returned (.tuple #[.agg #[.int .i64 2, .int .i64 1, .string ByteArray.empty], .bool true]) ∧ Cls w w' := by
  go_enter Tryd.func28, Tryd.ntmps28
  go_wp2_with (first | (go_at_call 61; ((with_reducible refine (bool_yes _).mono ?_); rintro e _ ⟨rfl, y, rfl⟩)))
  refine ret_ex rfl ?_
  simp [results, Tryd.results28, go_sem]
  refine Cls.of ?_
  repeat first | with_reducible exact Below.refl _ _ | with_reducible refine Below.setCell ?_ (by first | omega | (simp; done) | (simp; omega)) _ | with_reducible refine Below.alloc ?_ (by first | omega | (simp; done) | (simp; omega)) _ | with_reducible refine Below.drew ?_ | with_reducible refine Ext.on _ ?_ (by first | omega | (simp; done) | (simp; omega))
set_option maxHeartbeats 1000000 in
theorem cand_no (w : World) :
    Calls Tryd.prog 28 #[.string ⟨#[102, 97, 108, 115, 101]⟩] w fun e w' => e = .returned (.tuple #[.agg #[.int .i64 2, .int .i64 0, .string ByteArray.empty], .bool true]) ∧ Cls w w' := by
  go_enter Tryd.func28, Tryd.ntmps28
  go_wp2_with (first | (go_at_call 61; ((with_reducible refine (bool_no _).mono ?_); rintro e _ ⟨rfl, y, rfl⟩)))
  refine ret_ex rfl ?_
  simp [results, Tryd.results28, go_sem]
  refine Cls.of ?_
  repeat first | with_reducible exact Below.refl _ _ | with_reducible refine Below.setCell ?_ (by first | omega | (simp; done) | (simp; omega)) _ | with_reducible refine Below.alloc ?_ (by first | omega | (simp; done) | (simp; omega)) _ | with_reducible refine Below.drew ?_ | with_reducible refine Ext.on _ ?_ (by first | omega | (simp; done) | (simp; omega))
/-- The package-level errors of strconv hold an interface value. -/
def ErrAt (b : Nat) (w : World) : Prop := ∃ ev, w.cell? ⟨b, 0, none⟩ = some ev ∧ (ev = .nilIface ∨ ∃ te pe, ev = .iface te pe)
def Errs (w : World) : Prop := ErrAt 2 w ∧ ErrAt 3 w
theorem Errs.later {w w' : World} (h : Errs w) (hb : Below w.heap.size w w') : Errs w' := by
  obtain ⟨⟨ev, h1, h2⟩, ⟨ev', h3, h4⟩⟩ := h
  exact ⟨⟨ev, (hb.cell (World.block_lt_of_cell? _ _ h1)).trans h1, h2⟩, ⟨ev', (hb.cell (World.block_lt_of_cell? _ _ h3)).trans h3, h4⟩⟩
set_option maxHeartbeats 1000000 in
theorem cand_short_ok (s : ByteArray) (w : World) (n : Int) (hs : s.size < 2) (h1 : (s.toList == [110, 117, 108, 108]) = false) (h2 : (s.toList == [116, 114, 117, 101]) = false) (h3 : (s.toList == [102, 97, 108, 115, 101]) = false) (he : Errs w)
    (hp : ∀ w', Errs w' → Calls Tryd.prog 62 #[.string s, .int .i64 10, .int .i64 64] w' fun e w'' => e = .returned (.tuple #[.int .i64 n, .nilIface]) ∧ Cls w' w'') :
    Calls Tryd.prog 28 #[.string s] w fun e w' => e = .returned (.tuple #[.agg #[.int .i64 1, .int .i64 n, .string ByteArray.empty], .bool true]) ∧ Cls w w' := by
  have HP := Lib.hid (hp _ (he.later ((Below.refl _ _).alloc (Nat.le_refl _) (.cells #[.int .i64 0, .int .i64 0, .string ⟨#[]⟩] 23))))
  clear hp he
  go_enter Tryd.func28, Tryd.ntmps28
  go_wp2_with (first | (go_at_call 62; ((with_reducible refine HP.out.mono ?_); rintro e _ ⟨rfl, y, rfl⟩)))
  go_region
  go_wp2_with fail
  refine ret_ex rfl ?_
  simp [results, Tryd.results28, go_sem]
  refine ⟨rfl, ?_⟩
  refine Cls.of ?_
  repeat first | with_reducible exact Below.refl _ _ | with_reducible refine Below.setCell ?_ (by first | omega | (simp; done) | (simp; omega)) _ | with_reducible refine Below.alloc ?_ (by first | omega | (simp; done) | (simp; omega)) _ | with_reducible refine Below.drew ?_ | with_reducible refine Ext.on _ ?_ (by first | omega | (simp; done) | (simp; omega))
set_option maxHeartbeats 1000000 in
theorem cand_short_err (s : ByteArray) (w : World) (n : Int) (hs : s.size < 2) (h1 : (s.toList == [110, 117, 108, 108]) = false) (h2 : (s.toList == [116, 114, 117, 101]) = false) (h3 : (s.toList == [102, 97, 108, 115, 101]) = false) (he : Errs w)
    (hp : ∀ w', Errs w' → Calls Tryd.prog 62 #[.string s, .int .i64 10, .int .i64 64] w' fun e w'' => ∃ N, e = .returned (.tuple #[.int .i64 n, .iface 118 (.pointer (some ⟨N, 0, none⟩))]) ∧ Cls w' w'') :
    Calls Tryd.prog 28 #[.string s] w fun e w' => e = .returned (.tuple #[.agg #[.int .i64 1, .int .i64 n, .string ByteArray.empty], .bool false]) ∧ Cls w w' := by
  have HP := Lib.hid (hp _ (he.later ((Below.refl _ _).alloc (Nat.le_refl _) (.cells #[.int .i64 0, .int .i64 0, .string ⟨#[]⟩] 23))))
  clear hp he
  go_enter Tryd.func28, Tryd.ntmps28
  go_wp2_with (first | (go_at_call 62; ((with_reducible refine HP.out.mono ?_); rintro e _ ⟨N, rfl, y, rfl⟩)))
  go_region
  go_wp2_with fail
  refine ret_ex rfl ?_
  simp [results, Tryd.results28, go_sem]
  refine ⟨rfl, ?_⟩
  refine Cls.of ?_
  repeat first | with_reducible exact Below.refl _ _ | with_reducible refine Below.setCell ?_ (by first | omega | (simp; done) | (simp; omega)) _ | with_reducible refine Below.alloc ?_ (by first | omega | (simp; done) | (simp; omega)) _ | with_reducible refine Below.drew ?_ | with_reducible refine Ext.on _ ?_ (by first | omega | (simp; done) | (simp; omega))
set_option maxHeartbeats 1000000 in
theorem cand_long_ok (s : ByteArray) (w : World) (n : Int) (hs : 2 ≤ s.size) (h5 : ((s[0].toNat : Int) == 39) = false) (h1 : (s.toList == [110, 117, 108, 108]) = false) (h2 : (s.toList == [116, 114, 117, 101]) = false) (h3 : (s.toList == [102, 97, 108, 115, 101]) = false) (he : Errs w)
    (hp : ∀ w', Errs w' → Calls Tryd.prog 62 #[.string s, .int .i64 10, .int .i64 64] w' fun e w'' => e = .returned (.tuple #[.int .i64 n, .nilIface]) ∧ Cls w' w'') :
    Calls Tryd.prog 28 #[.string s] w fun e w' => e = .returned (.tuple #[.agg #[.int .i64 1, .int .i64 n, .string ByteArray.empty], .bool true]) ∧ Cls w w' := by
  have HP := Lib.hid (hp _ (he.later ((Below.refl _ _).alloc (Nat.le_refl _) (.cells #[.int .i64 0, .int .i64 0, .string ⟨#[]⟩] 23))))
  clear hp he
  go_enter Tryd.func28, Tryd.ntmps28
  go_wp2_with (first | (go_at_call 62; ((with_reducible refine HP.out.mono ?_); rintro e _ ⟨rfl, y, rfl⟩)))
  go_region
  go_wp2_with fail
  refine ret_ex rfl ?_
  simp [results, Tryd.results28, go_sem]
  refine ⟨rfl, ?_⟩
  refine Cls.of ?_
  repeat first | with_reducible exact Below.refl _ _ | with_reducible refine Below.setCell ?_ (by first | omega | (simp; done) | (simp; omega)) _ | with_reducible refine Below.alloc ?_ (by first | omega | (simp; done) | (simp; omega)) _ | with_reducible refine Below.drew ?_ | with_reducible refine Ext.on _ ?_ (by first | omega | (simp; done) | (simp; omega))
set_option maxHeartbeats 1000000 in
theorem cand_long_err (s : ByteArray) (w : World) (n : Int) (hs : 2 ≤ s.size) (h5 : ((s[0].toNat : Int) == 39) = false) (h1 : (s.toList == [110, 117, 108, 108]) = false) (h2 : (s.toList == [116, 114, 117, 101]) = false) (h3 : (s.toList == [102, 97, 108, 115, 101]) = false) (he : Errs w)
    (hp : ∀ w', Errs w' → Calls Tryd.prog 62 #[.string s, .int .i64 10, .int .i64 64] w' fun e w'' => ∃ N, e = .returned (.tuple #[.int .i64 n, .iface 118 (.pointer (some ⟨N, 0, none⟩))]) ∧ Cls w' w'') :
    Calls Tryd.prog 28 #[.string s] w fun e w' => e = .returned (.tuple #[.agg #[.int .i64 1, .int .i64 n, .string ByteArray.empty], .bool false]) ∧ Cls w w' := by
  have HP := Lib.hid (hp _ (he.later ((Below.refl _ _).alloc (Nat.le_refl _) (.cells #[.int .i64 0, .int .i64 0, .string ⟨#[]⟩] 23))))
  clear hp he
  go_enter Tryd.func28, Tryd.ntmps28
  go_wp2_with (first | (go_at_call 62; ((with_reducible refine HP.out.mono ?_); rintro e _ ⟨N, rfl, y, rfl⟩)))
  go_region
  go_wp2_with fail
  refine ret_ex rfl ?_
  simp [results, Tryd.results28, go_sem]
  refine ⟨rfl, ?_⟩
  refine Cls.of ?_
  repeat first | with_reducible exact Below.refl _ _ | with_reducible refine Below.setCell ?_ (by first | omega | (simp; done) | (simp; omega)) _ | with_reducible refine Below.alloc ?_ (by first | omega | (simp; done) | (simp; omega)) _ | with_reducible refine Below.drew ?_ | with_reducible refine Ext.on _ ?_ (by first | omega | (simp; done) | (simp; omega))
theorem parse_err (s : ByteArray) (hs : s.size ≤ 281474976710656) (h : ∀ v, parseIntB 64 s.data.toList ≠ .ok v) :
    ∃ n, ∀ w', Errs w' → Calls Tryd.prog 62 #[.string s, .int .i64 10, .int .i64 64] w' fun e w'' => ∃ N, e = .returned (.tuple #[.int .i64 n, .iface 118 (.pointer (some ⟨N, 0, none⟩))]) ∧ Cls w' w'' := by
  cases hr : parseIntB 64 s.data.toList
  case ok v => exact absurd hr (h v)
  case range =>
    refine ⟨Lib.intSat 64 s.data.toList, fun w' he => ?_⟩
    obtain ⟨_, ⟨ev, h1, h2⟩⟩ := he
    exact (Tryd.strconv_ParseInt_10_at64_range s hs hr ev w' h1 h2).mono fun e w'' ⟨N, h3, _, _, h4⟩ => ⟨N, h3, Cls.of h4⟩
  refine ⟨0, fun w' he => ?_⟩
  obtain ⟨⟨ev, h1, h2⟩, _⟩ := he
  exact (Tryd.strconv_ParseInt_10_at64_syntax s hs hr ev w' h1 h2).mono fun e w'' ⟨N, h3, _, _, h4⟩ => ⟨N, h3, Cls.of h4⟩
theorem parse_ok (s : ByteArray) (hs : s.size ≤ 281474976710656) (n : Int) (h : parseIntB 64 s.data.toList = .ok n) :
    ∀ w', Errs w' → Calls Tryd.prog 62 #[.string s, .int .i64 10, .int .i64 64] w' fun e w'' => e = .returned (.tuple #[.int .i64 n, .nilIface]) ∧ Cls w' w'' := by
  intro w' _
  refine (Tryd.strconv_ParseInt_10_at64_ok s (by omega) n h w').mono fun e w'' ⟨h1, h2⟩ => ⟨h1, ?_⟩
  rcases h2 with rfl | ⟨t, rfl⟩
  · exact Cls.of (Below.refl _ _)
  · refine Cls.of ?_
    exact bytesWorld_below _ _ _
theorem of_toList {s : ByteArray} {l : List UInt8} (h : (s.toList == l) = true) : s = ⟨l.toArray⟩ := by
  rw [toList_data, beq_iff_eq] at h
  apply ByteArray.ext
  rw [← h]
theorem not_toList {s : ByteArray} {l : List UInt8} (h : (s.toList == l) = false) : l ≠ s.data.toList := by
  rw [toList_data] at h
  intro e; rw [e] at h; simp at h
theorem head_at {s : ByteArray} {c : UInt8} {r : List UInt8} (h : c :: r = s.data.toList) (h0 : 0 < s.size) : s[0] = c := by
  show s.data[0] = c
  have : s.data.toList[0]? = some c := by rw [← h]; rfl
  rw [Array.getElem?_toList, Array.getElem?_eq_some_iff] at this
  exact this.2
/-- What is asked of a candidate: no other value has the text. -/
def Only (l : List UInt8) (k n : Int) (t : ByteArray) (b : Bool) : Prop := ∀ k' n' t', vB k' n' t' = true → txt k' n' t' = l → k = k' ∧ n = n' ∧ t = t' ∧ b = true
theorem only_self {k n : Int} {t : ByteArray} (h : vB k n t = true) {l : List UInt8} (hl : txt k n t = l) : Only l k n t true := by
  intro k' n' t' h' e
  obtain ⟨h1, h2, h3⟩ := txt_inj h h' (hl.trans e.symm)
  exact ⟨h1, h2, h3, rfl⟩
theorem v_null : vB 0 0 ByteArray.empty = true := by simp [vB, toList_data]
theorem v_yes : vB 2 1 ByteArray.empty = true := by simp [vB, toList_data]
theorem v_no : vB 2 0 ByteArray.empty = true := by simp [vB, toList_data]
theorem only_num {s : ByteArray} (h1 : (s.toList == [110, 117, 108, 108]) = false) (h2 : (s.toList == [116, 114, 117, 101]) = false) (h3 : (s.toList == [102, 97, 108, 115, 101]) = false)
    (h4 : ∀ t : ByteArray, 39 :: t.data.toList ++ [39] ≠ s.data.toList) {n : Int} {b : Bool} (hb : ∀ v, -1000000000000 ≤ v ∧ v ≤ 1000000000000 → itoa v = s.data.toList → n = v ∧ b = true) :
    Only s.data.toList 1 n ByteArray.empty b := by
  intro k' n' t' hv ht
  rcases v_cases hv with ⟨rfl, g1, g2, g3⟩ | ⟨rfl, g1, g2, g3⟩ | ⟨rfl, g1, g2, g3⟩ | ⟨rfl, g1, g2, g3⟩ | ⟨rfl, g1, g2, g3⟩ <;> rw [g3] at ht
  · exact absurd ht (not_toList h1)
  · exact ⟨rfl, (hb n' g1 ht).1, g2.symm, (hb n' g1 ht).2⟩
  · exact absurd ht (not_toList h3)
  · exact absurd ht (not_toList h2)
  · exact absurd ht (h4 t')
theorem num_ok {s : ByteArray} {n : Int} (h : parseIntB 64 s.data.toList = .ok n) : ∀ v, -1000000000000 ≤ v ∧ v ≤ 1000000000000 → itoa v = s.data.toList → n = v ∧ true = true := by
  intro v hv e
  rw [← e, parseInt_itoa hv] at h
  exact ⟨(NumEnd.ok.inj h).symm, rfl⟩
theorem num_err {s : ByteArray} {n : Int} (h : ∀ v, parseIntB 64 s.data.toList ≠ .ok v) : ∀ v, -1000000000000 ≤ v ∧ v ≤ 1000000000000 → itoa v = s.data.toList → n = v ∧ false = true := by
  intro v hv e
  exact absurd (by rw [← e]; exact parseInt_itoa hv) (h v)
def CandIs (s : ByteArray) (w : World) (e : Ending) (w' : World) : Prop :=
  ∃ k n t b, e = .returned (.tuple #[.agg #[.int .i64 k, .int .i64 n, .string t], .bool b]) ∧ t.size ≤ 281474976710656 ∧ Only s.data.toList k n t b ∧ Cls w w'
theorem cand_calls (s : ByteArray) (w : World) (hs : s.size ≤ 281474976710656) (he : Errs w) :
    Calls Tryd.prog 28 #[.string s] w fun e w' => CandIs s w e w' := by
  have z : ByteArray.empty.size ≤ 281474976710656 := by decide
  cases h1 : s.toList == [110, 117, 108, 108]
  case true =>
    have := of_toList h1; subst this
    exact (cand_null w).mono fun e w' ⟨h, h'⟩ => ⟨_, _, _, _, h, z, only_self v_null (by simp [txt, v_null]), h'⟩
  cases h2 : s.toList == [116, 114, 117, 101]
  case true =>
    have := of_toList h2; subst this
    exact (cand_yes w).mono fun e w' ⟨h, h'⟩ => ⟨_, _, _, _, h, z, only_self v_yes (by simp [txt, v_yes]), h'⟩
  cases h3 : s.toList == [102, 97, 108, 115, 101]
  case true =>
    have := of_toList h3; subst this
    exact (cand_no w).mono fun e w' ⟨h, h'⟩ => ⟨_, _, _, _, h, z, only_self v_no (by simp [txt, v_no]), h'⟩
  by_cases h4 : 2 ≤ s.size
  · by_cases h5 : s[0] = 39
    · refine (cand_quote s w hs h1 h2 h3 h4 h5).mono fun e w' ⟨h, h'⟩ => ⟨_, _, _, _, h, by rw [ByteArray.size_extract]; omega, ?_, h'⟩
      intro k' n' t' hv ht
      rcases v_cases hv with ⟨rfl, g1, g2, g3⟩ | ⟨rfl, g1, g2, g3⟩ | ⟨rfl, g1, g2, g3⟩ | ⟨rfl, g1, g2, g3⟩ | ⟨rfl, g1, g2, g3⟩ <;> rw [g3] at ht
      · exact absurd ht (not_toList h1)
      · obtain ⟨c, r, g4, g5⟩ := itoa_head n'
        rw [g4] at ht
        have := head_at ht (by omega)
        rw [h5] at this; subst this
        exact absurd g5 no39
      · exact absurd ht (not_toList h3)
      · exact absurd ht (not_toList h2)
      · refine ⟨rfl, g1.symm, ?_, rfl⟩
        apply ByteArray.ext
        apply Array.toList_inj.mp
        have hz : s.size = t'.size + 2 := by
          show s.data.size = t'.data.size + 2
          rw [← Array.length_toList, ← ht]; simp
        rw [ByteArray.data_extract, Array.toList_extract, ← ht]
        simp [List.extract_eq_take_drop, hz]
    · have h6 : ((s[0].toNat : Int) == 39) = false := by
        rw [beq_eq_false_iff_ne]; intro e; apply h5; apply UInt8.toNat_inj.mp; show s[0].toNat = 39; omega
      have h7 : ∀ t : ByteArray, 39 :: t.data.toList ++ [39] ≠ s.data.toList := fun t e => h5 (head_at e (by omega))
      rcases Classical.em (∃ v, parseIntB 64 s.data.toList = .ok v) with ⟨v, hv⟩ | hv
      · exact (cand_long_ok s w v h4 h6 h1 h2 h3 he (parse_ok s hs v hv)).mono fun e w' ⟨h, h'⟩ => ⟨_, _, _, _, h, z, only_num h1 h2 h3 h7 (num_ok hv), h'⟩
      · have hv' : ∀ v, parseIntB 64 s.data.toList ≠ .ok v := fun v h => hv ⟨v, h⟩
        obtain ⟨n, hn⟩ := parse_err s hs hv'
        exact (cand_long_err s w n h4 h6 h1 h2 h3 he hn).mono fun e w' ⟨h, h'⟩ => ⟨_, _, _, _, h, z, only_num h1 h2 h3 h7 (num_err hv'), h'⟩
  · have h7 : ∀ t : ByteArray, 39 :: t.data.toList ++ [39] ≠ s.data.toList := by
      intro t e
      have : s.data.toList.length = s.size := by rw [Array.length_toList]; rfl
      rw [← e] at this
      simp at this
      omega
    rcases Classical.em (∃ v, parseIntB 64 s.data.toList = .ok v) with ⟨v, hv⟩ | hv
    · exact (cand_short_ok s w v (by omega) h1 h2 h3 he (parse_ok s hs v hv)).mono fun e w' ⟨h, h'⟩ => ⟨_, _, _, _, h, z, only_num h1 h2 h3 h7 (num_ok hv), h'⟩
    · have hv' : ∀ v, parseIntB 64 s.data.toList ≠ .ok v := fun v h => hv ⟨v, h⟩
      obtain ⟨n, hn⟩ := parse_err s hs hv'
      exact (cand_short_err s w n (by omega) h1 h2 h3 he hn).mono fun e w' ⟨h, h'⟩ => ⟨_, _, _, _, h, z, only_num h1 h2 h3 h7 (num_err hv'), h'⟩
end Go.Proofs.YtmjaieceknhnbaaDoor
