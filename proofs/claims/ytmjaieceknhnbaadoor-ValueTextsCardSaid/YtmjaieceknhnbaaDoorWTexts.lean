/-
  The walk of the law ValueTexts: it returns true for every value and every string.
-/
import Derived.Test.YtmjaieceknhnbaaDoorRParse
import Derived.Test.YtmjaieceknhnbaaDoorNew
set_option linter.unusedVariables false
namespace Go.Proofs.YtmjaieceknhnbaaDoor
open Go Go.RowKit Lib
def retP (K N : Int) (S : ByteArray) (X : Int) : Ending := .returned (.tuple #[.agg #[.int .i64 K, .int .i64 N, .string S], .int .i64 X])
theorem parse_det (l : List UInt8) : ∃ K N S X, (∀ e, ParseIs l e → e = retP K N S X) ∧ (∀ k n t, vB k n t = true → txt k n t = l → K = k ∧ N = n ∧ S = t ∧ X = 0) := by
  rcases Classical.em (∃ k n t, vB k n t = true ∧ txt k n t = l) with ⟨k, n, t, hv, ht⟩ | h
  · refine ⟨k, n, t, 0, fun e he => ?_, fun k' n' t' hv' ht' => ?_⟩
    · rcases he with ⟨k', n', t', hv', ht', rfl⟩ | ⟨hno, _⟩
      · obtain ⟨rfl, rfl, rfl⟩ := txt_inj hv hv' (ht.trans ht'.symm)
        rfl
      · exact absurd ht (hno k n t hv)
    · obtain ⟨h1, h2, h3⟩ := txt_inj hv hv' (ht.trans ht'.symm)
      exact ⟨h1, h2, h3, rfl⟩
  · refine ⟨0, 0, ByteArray.empty, 2, fun e he => ?_, fun k' n' t' hv' ht' => absurd ⟨k', n', t', hv', ht'⟩ h⟩
    rcases he with ⟨k', n', t', hv', ht', rfl⟩ | ⟨_, rfl⟩
    · exact absurd ⟨k', n', t', hv', ht'⟩ h
    · rfl
theorem txt_size (k n : Int) (t : ByteArray) : (⟨(txt k n t).toArray⟩ : ByteArray).size ≤ 200 := by
  have e : (⟨(txt k n t).toArray⟩ : ByteArray).size = (txt k n t).length := by show (txt k n t).toArray.size = _; simp
  rw [e]
  cases hv : vB k n t
  · unfold txt; rw [hv]; simp
  · rcases v_cases hv with ⟨_, _, _, h⟩ | ⟨_, h1, _, h⟩ | ⟨_, _, _, h⟩ | ⟨_, _, _, h⟩ | ⟨_, _, h1, h⟩ <;> rw [h]
    · simp
    · have := itoa_len h1; omega
    · simp
    · simp
    · have hl : t.data.toList.length = t.size := by rw [Array.length_toList]; rfl
      simp only [List.length_append, List.length_cons, hl, List.length_nil]
      omega
set_option maxHeartbeats 4000000 in
set_option maxRecDepth 100000 in
theorem valueTexts_walk (k n : Int) (t s : ByteArray) (w : World) (ht : t.size ≤ maxLen) (he : Errs w) (htab : Tab w) :
    Calls Tryd.prog 3 #[.agg #[.int .i64 k, .int .i64 n, .string t], .string s] w fun e w' => e = .returned (.bool true) ∧ Below w.heap.size w w' := by
  by_cases hs : s.size ≤ 200
  case neg =>
    have d1 : decide (200 < (s.size : Int)) = true := by simp; omega
    clear he htab
    go_enter Tryd.func3, Tryd.ntmps3
    go_wp2_with fail
    go_ret
    refine ⟨ret_bool rfl, ?_⟩
    repeat first | with_reducible exact Below.refl _ _ | with_reducible refine Below.setCell ?_ (by first | omega | (simp; done) | (simp; omega)) _ | with_reducible refine Below.alloc ?_ (by first | omega | (simp; done) | (simp; omega)) _ | with_reducible refine Below.drew ?_ | with_reducible refine Ext.on _ ?_ (by first | omega | (simp; done) | (simp; omega))
  case pos =>
    have d1 : decide (200 < (s.size : Int)) = false := by simp; omega
    obtain ⟨K, N, S, X, h1, -⟩ := parse_det s.data.toList
    obtain ⟨K2, N2, S2, X2, h2, h3⟩ := parse_det (txt k n t)
    have e0 : (⟨(txt k n t).toArray⟩ : ByteArray).data.toList = txt k n t := by simp
    have P1 : Hid (∀ W, Below w.heap.size w W → Calls Tryd.prog 8 #[.string s] W fun e w' => e = .returned (.tuple #[.agg #[.int .i64 K, .int .i64 N, .string S], .int .i64 X]) ∧ Cls W w') := Lib.hid (fun W hW => (Parse_calls s W (by omega) (he.later hW) (htab.later hW)).mono fun e w' ⟨h, h'⟩ => ⟨h1 e h, h'⟩)
    have P2 : Hid (∀ W, Below w.heap.size w W → Calls Tryd.prog 9 #[.string s] W fun e w' => e = .returned (.tuple #[.agg #[.int .i64 K, .int .i64 N, .string S], .int .i64 X]) ∧ Cls W w') := Lib.hid (fun W hW => (rParse_calls s W hs (htab.later hW)).mono fun e w' ⟨h, h'⟩ => ⟨h1 e h, h'⟩)
    have P3 : Hid (∀ W, Below w.heap.size w W → Calls Tryd.prog 8 #[.string ⟨(txt k n t).toArray⟩] W fun e w' => e = .returned (.tuple #[.agg #[.int .i64 K2, .int .i64 N2, .string S2], .int .i64 X2]) ∧ Cls W w') := Lib.hid (fun W hW => (Parse_calls _ W (by have := txt_size k n t; omega) (he.later hW) (htab.later hW)).mono fun e w' ⟨h, h'⟩ => ⟨h2 e (by rw [e0] at h; exact h), h'⟩)
    have T1 : Hid (∀ W, Below w.heap.size w W → Calls Tryd.prog 10 #[.agg #[.int .i64 k, .int .i64 n, .string t]] W fun e w' => e = .returned (.string ⟨(txt k n t).toArray⟩) ∧ Cls W w') := Lib.hid (fun W hW => Text_calls k n t W ht (htab.later hW))
    have T2 : Hid (∀ W, Below w.heap.size w W → Calls Tryd.prog 11 #[.agg #[.int .i64 k, .int .i64 n, .string t]] W fun e w' => e = .returned (.string ⟨(txt k n t).toArray⟩) ∧ Cls W w') := Lib.hid (fun W hW => rText_calls k n t W ht (htab.later hW))
    have V1 : Hid (∀ W, Calls Tryd.prog 12 #[.agg #[.int .i64 k, .int .i64 n, .string t]] W fun e w' => e = .returned (.bool (vB k n t)) ∧ Cls W w') := Lib.hid (fun W => rValid_calls k n t W ht)
    have H3 := Lib.hid (h3 k n t)
    clear h1 h2 h3 e0 he htab hs ht
    go_enter Tryd.func3, Tryd.ntmps3
    go_wp2_with (first | (go_at_call 8; ((with_reducible refine (P1.out _ (by repeat first | with_reducible exact Below.refl _ _ | with_reducible refine Below.setCell ?_ (by first | omega | (simp; done) | (simp; omega)) _ | with_reducible refine Below.alloc ?_ (by first | omega | (simp; done) | (simp; omega)) _ | with_reducible refine Below.drew ?_ | with_reducible refine Ext.on _ ?_ (by first | omega | (simp; done) | (simp; omega)))).mono ?_); rintro e _ ⟨rfl, y, rfl⟩; have ys := y.size; simp at ys)) | (go_at_call 9; ((with_reducible refine (P2.out _ (by repeat first | with_reducible exact Below.refl _ _ | with_reducible refine Below.setCell ?_ (by first | omega | (simp; done) | (simp; omega)) _ | with_reducible refine Below.alloc ?_ (by first | omega | (simp; done) | (simp; omega)) _ | with_reducible refine Below.drew ?_ | with_reducible refine Ext.on _ ?_ (by first | omega | (simp; done) | (simp; omega)))).mono ?_); rintro e _ ⟨rfl, y2, rfl⟩; have ys2 := y2.size; simp at ys2)))
    have a1 : w.heap.size < y.val.heap.size := by omega
    have a2 : w.heap.size < y.val.heap.size + 1 := by omega
    have a3 : w.heap.size < y2.val.heap.size := by omega
    have a4 : w.heap.size < y2.val.heap.size + 1 := by omega
    have b2 : y.val.heap.size < y2.val.heap.size := by omega
    have b3 : y.val.heap.size < y2.val.heap.size + 1 := by omega
    refine wp_region_ext (by kernel_rfl) (by kernel_rfl) ?_
    repeat (go_big_quiet_step ((first | (go_at_call 10; exact Cls.call (T1.out _ (by repeat first | with_reducible exact Below.refl _ _ | with_reducible refine Below.setCell ?_ (by first | omega | (simp; done) | (simp; omega)) _ | with_reducible refine Below.alloc ?_ (by first | omega | (simp; done) | (simp; omega)) _ | with_reducible refine Below.drew ?_ | with_reducible refine Ext.on _ ?_ (by first | omega | (simp; done) | (simp; omega))))) | (go_at_call 11; exact Cls.call (T2.out _ (by repeat first | with_reducible exact Below.refl _ _ | with_reducible refine Below.setCell ?_ (by first | omega | (simp; done) | (simp; omega)) _ | with_reducible refine Below.alloc ?_ (by first | omega | (simp; done) | (simp; omega)) _ | with_reducible refine Below.drew ?_ | with_reducible refine Ext.on _ ?_ (by first | omega | (simp; done) | (simp; omega))))))))
    refine wpQuiet_nil ?_
    rintro _ ⟨x, rfl⟩
    have xs := x.size
    simp at xs
    obtain ⟨c1, c2, _, _, _⟩ := x.lts (b := w.heap.size) (by simp; omega)
    cases hv : vB k n t
    case false =>
      have V2 : Hid (∀ W, Calls Tryd.prog 12 #[.agg #[.int .i64 k, .int .i64 n, .string t]] W fun e w' => e = .returned (.bool false) ∧ Cls W w') := Lib.hid (fun W => by have := V1.out W; rw [hv] at this; exact this)
      clear V1 hv
      go_wp2_with (first | (go_at_call 10; ((with_reducible refine (Cls.call (T1.out _ (by repeat first | with_reducible exact Below.refl _ _ | with_reducible refine Below.setCell ?_ (by first | omega | (simp; done) | (simp; omega)) _ | with_reducible refine Below.alloc ?_ (by first | omega | (simp; done) | (simp; omega)) _ | with_reducible refine Below.drew ?_ | with_reducible refine Ext.on _ ?_ (by first | omega | (simp; done) | (simp; omega))))).mono ?_); rintro e _ ⟨rfl, y3, rfl⟩)) | (go_at_call 8; ((with_reducible refine (Cls.call (P3.out _ (by repeat first | with_reducible exact Below.refl _ _ | with_reducible refine Below.setCell ?_ (by first | omega | (simp; done) | (simp; omega)) _ | with_reducible refine Below.alloc ?_ (by first | omega | (simp; done) | (simp; omega)) _ | with_reducible refine Below.drew ?_ | with_reducible refine Ext.on _ ?_ (by first | omega | (simp; done) | (simp; omega))))).mono ?_); rintro e _ ⟨rfl, y4, rfl⟩; have ys4 := y4.size; simp at ys4; obtain ⟨g1, g2, g3, g4, _⟩ := y4.lts (b := w.heap.size) (by simp; omega))) | (go_at_call 12; ((with_reducible refine (V2.out _).mono ?_); rintro e _ ⟨rfl, y5, rfl⟩)))
      go_ret
      refine ⟨ret_bool (by first | rfl | simp), ?_⟩
      repeat first | with_reducible exact Below.refl _ _ | with_reducible refine Below.setCell ?_ (by first | omega | (simp; done) | (simp; omega)) _ | with_reducible refine Below.alloc ?_ (by first | omega | (simp; done) | (simp; omega)) _ | with_reducible refine Below.drew ?_ | with_reducible refine Ext.on _ ?_ (by first | omega | (simp; done) | (simp; omega))
    case true =>
      have V2 : Hid (∀ W, Calls Tryd.prog 12 #[.agg #[.int .i64 k, .int .i64 n, .string t]] W fun e w' => e = .returned (.bool true) ∧ Cls W w') := Lib.hid (fun W => by have := V1.out W; rw [hv] at this; exact this)
      obtain ⟨rfl, rfl, rfl, rfl⟩ := H3.out hv (by first | rfl | trivial)
      clear V1 hv
      go_wp2_with (first | (go_at_call 10; ((with_reducible refine (Cls.call (T1.out _ (by repeat first | with_reducible exact Below.refl _ _ | with_reducible refine Below.setCell ?_ (by first | omega | (simp; done) | (simp; omega)) _ | with_reducible refine Below.alloc ?_ (by first | omega | (simp; done) | (simp; omega)) _ | with_reducible refine Below.drew ?_ | with_reducible refine Ext.on _ ?_ (by first | omega | (simp; done) | (simp; omega))))).mono ?_); rintro e _ ⟨rfl, y3, rfl⟩)) | (go_at_call 8; ((with_reducible refine (Cls.call (P3.out _ (by repeat first | with_reducible exact Below.refl _ _ | with_reducible refine Below.setCell ?_ (by first | omega | (simp; done) | (simp; omega)) _ | with_reducible refine Below.alloc ?_ (by first | omega | (simp; done) | (simp; omega)) _ | with_reducible refine Below.drew ?_ | with_reducible refine Ext.on _ ?_ (by first | omega | (simp; done) | (simp; omega))))).mono ?_); rintro e _ ⟨rfl, y4, rfl⟩; have ys4 := y4.size; simp at ys4; obtain ⟨g1, g2, g3, g4, _⟩ := y4.lts (b := w.heap.size) (by simp; omega))) | (go_at_call 12; ((with_reducible refine (V2.out _).mono ?_); rintro e _ ⟨rfl, y5, rfl⟩)))
      go_ret
      refine ⟨ret_bool (by first | rfl | simp), ?_⟩
      repeat first | with_reducible exact Below.refl _ _ | with_reducible refine Below.setCell ?_ (by first | omega | (simp; done) | (simp; omega)) _ | with_reducible refine Below.alloc ?_ (by first | omega | (simp; done) | (simp; omega)) _ | with_reducible refine Below.drew ?_ | with_reducible refine Ext.on _ ?_ (by first | omega | (simp; done) | (simp; omega))
end Go.Proofs.YtmjaieceknhnbaaDoor
