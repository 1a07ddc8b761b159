/-
  The parts of the program's Type: what an operation may have, the type of a column, and the type of an operation over its Kids; depth and size of any expression.
-/
import Derived.Test.YtkmpaonakhfcjaaDoorEval
import Derived.Test.YtkmpaonakhfcjaaDoorValid
set_option linter.unusedVariables false
namespace Go.Proofs.YtkmpaonakhfcjaaDoor
open Go Go.RowKit Go.Deep
/-- A list of numbers behind a slice. -/
def NumIn (w : World) (a : Option Addr) (len cap : Nat) (l : List Int) : Prop :=
  l.length = len ∧ len ≤ cap ∧ cap ≤ maxLen ∧ (len = 0 ∨ ∃ b off, a = some ⟨b, off, none⟩ ∧ b < w.heap.size ∧ ∀ i, i < len → w.cell? ⟨b, off + i, none⟩ = some (.int .i64 (l.getD i 0)))
theorem NumIn.later {w w' : World} {a : Option Addr} {len cap : Nat} {l : List Int} (h : NumIn w a len cap l) (hb : Below w.heap.size w w') : NumIn w' a len cap l := by
  refine ⟨h.1, h.2.1, h.2.2.1, h.2.2.2.imp id ?_⟩
  rintro ⟨b, off, ha, hlt, hc⟩
  refine ⟨b, off, ha, Nat.lt_of_lt_of_le hlt hb.size, fun i hi => ?_⟩
  rw [hb.cell (p := ⟨b, _, none⟩) hlt]
  exact hc i hi
set_option maxHeartbeats 1000000 in
theorem isType_calls (t : Int) (w : World) (h : t = 1 ∨ t = 2 ∨ t = 3) :
    Calls Tryd.prog 107 #[.int .i64 t] w fun r w' => r = .returned (.bool true) ∧ Cls w w' := by
  rcases h with rfl | rfl | rfl
  all_goals
    go_enter Tryd.func107, Tryd.ntmps107
    go_wp2_with fail
    go_ret
    refine ⟨ret_bool rfl, Cls.of ?_⟩
    repeat first | with_reducible exact Below.refl _ _ | with_reducible refine Below.setCell ?_ (by first | omega | (simp; done) | (simp; omega)) _ | with_reducible refine Below.alloc ?_ (by first | omega | (simp; done) | (simp; omega)) _ | with_reducible refine Below.drew ?_ | with_reducible refine Ext.on _ ?_ (by first | omega | (simp; done) | (simp; omega))
set_option maxHeartbeats 1000000 in
theorem columnType_calls (l : List Int) (c : Nat) (a : Option Addr) (len cap : Nat) (w : World) (h : NumIn w a len cap l) (hc : c < len) (ht : l.getD c 0 = 1 ∨ l.getD c 0 = 2 ∨ l.getD c 0 = 3) :
    Calls Tryd.prog 70 #[.slice a len cap, .int .i64 (c : Nat)] w fun r w' => r = .returned (.tuple #[.int .i64 (l.getD c 0), .int .i64 0]) ∧ Cls w w' := by
  obtain ⟨hl, hle, hmax, hh⟩ := h
  unfold maxLen at hmax
  obtain ⟨b, off, rfl, hb, hcell⟩ := hh.resolve_left (by omega)
  have q := hcell c hc
  have b1 : decide ((c : Int) < 0) = false := by simp
  have b2 : decide ((len : Int) ≤ (c : Int)) = false := by simp; omega
  have C1 := Lib.hid (fun W => isType_calls (l.getD c 0) W ht)
  clear hcell ht hh
  generalize l.getD c 0 = t at *
  go_enter Tryd.func70, Tryd.ntmps70
  go_wp2_with (go_at_call 107; ((with_reducible refine (C1.out _).mono ?_); rintro r _ ⟨rfl, y, rfl⟩))
  go_ret2
  refine ⟨rfl, Cls.of ?_⟩
  repeat first | with_reducible exact Below.refl _ _ | with_reducible refine Below.setCell ?_ (by first | omega | (simp; done) | (simp; omega)) _ | with_reducible refine Below.alloc ?_ (by first | omega | (simp; done) | (simp; omega)) _ | with_reducible refine Below.drew ?_ | with_reducible refine Ext.on _ ?_ (by first | omega | (simp; done) | (simp; omega))
def Only (ty num : Int) (text : ByteArray) (col f : Int) : Prop := (ty = 0 ∨ f = 0) ∧ (num = 0 ∨ f = 1) ∧ (text = ⟨#[]⟩ ∨ f = 2) ∧ (col = 0 ∨ f = 3)
set_option maxHeartbeats 2000000 in
theorem hasOnly_calls (op ty num : Int) (text : ByteArray) (col : Int) (a : Option Addr) (len cap : Nat) (f : Int) (w : World) (h : Only ty num text col f) :
    Calls Tryd.prog 68 #[.agg #[.int .i64 op, .int .i64 ty, .int .i64 num, .string text, .int .i64 col, .slice a len cap], .int .i64 f] w fun r w' => r = .returned (.bool true) ∧ Cls w w' := by
  obtain ⟨h0, h1, h2, h3⟩ := h
  by_cases f0 : f = 0
  · subst f0
    obtain rfl := h1.resolve_right (by decide)
    obtain rfl := h2.resolve_right (by decide)
    obtain rfl := h3.resolve_right (by decide)
    go_enter Tryd.func68, Tryd.ntmps68
    go_wp2_with fail
    all_goals
      go_ret
      refine ⟨ret_bool (by first | rfl | (simp; done)), Cls.of ?_⟩
      repeat first | with_reducible exact Below.refl _ _ | with_reducible refine Below.setCell ?_ (by first | omega | (simp; done) | (simp; omega)) _ | with_reducible refine Below.alloc ?_ (by first | omega | (simp; done) | (simp; omega)) _ | with_reducible refine Below.drew ?_ | with_reducible refine Ext.on _ ?_ (by first | omega | (simp; done) | (simp; omega))
  obtain rfl := h0.resolve_right f0
  by_cases f1 : f = 1
  · subst f1
    obtain rfl := h2.resolve_right (by decide)
    obtain rfl := h3.resolve_right (by decide)
    go_enter Tryd.func68, Tryd.ntmps68
    go_wp2_with fail
    all_goals
      go_ret
      refine ⟨ret_bool (by first | rfl | (simp; done)), Cls.of ?_⟩
      repeat first | with_reducible exact Below.refl _ _ | with_reducible refine Below.setCell ?_ (by first | omega | (simp; done) | (simp; omega)) _ | with_reducible refine Below.alloc ?_ (by first | omega | (simp; done) | (simp; omega)) _ | with_reducible refine Below.drew ?_ | with_reducible refine Ext.on _ ?_ (by first | omega | (simp; done) | (simp; omega))
  obtain rfl := h1.resolve_right f1
  by_cases f2 : f = 2
  · subst f2
    obtain rfl := h3.resolve_right (by decide)
    go_enter Tryd.func68, Tryd.ntmps68
    go_wp2_with fail
    all_goals
      go_ret
      refine ⟨ret_bool (by first | rfl | (simp; done)), Cls.of ?_⟩
      repeat first | with_reducible exact Below.refl _ _ | with_reducible refine Below.setCell ?_ (by first | omega | (simp; done) | (simp; omega)) _ | with_reducible refine Below.alloc ?_ (by first | omega | (simp; done) | (simp; omega)) _ | with_reducible refine Below.drew ?_ | with_reducible refine Ext.on _ ?_ (by first | omega | (simp; done) | (simp; omega))
  obtain rfl := h2.resolve_right f2
  by_cases f3 : f = 3
  · subst f3
    go_enter Tryd.func68, Tryd.ntmps68
    go_wp2_with fail
    all_goals
      go_ret
      refine ⟨ret_bool (by first | rfl | (simp; done)), Cls.of ?_⟩
      repeat first | with_reducible exact Below.refl _ _ | with_reducible refine Below.setCell ?_ (by first | omega | (simp; done) | (simp; omega)) _ | with_reducible refine Below.alloc ?_ (by first | omega | (simp; done) | (simp; omega)) _ | with_reducible refine Below.drew ?_ | with_reducible refine Ext.on _ ?_ (by first | omega | (simp; done) | (simp; omega))
  obtain rfl := h3.resolve_right f3
  go_enter Tryd.func68, Tryd.ntmps68
  go_wp2_with fail
  all_goals
    go_ret
    refine ⟨ret_bool (by first | rfl | (simp; done)), Cls.of ?_⟩
    repeat first | with_reducible exact Below.refl _ _ | with_reducible refine Below.setCell ?_ (by first | omega | (simp; done) | (simp; omega)) _ | with_reducible refine Below.alloc ?_ (by first | omega | (simp; done) | (simp; omega)) _ | with_reducible refine Below.drew ?_ | with_reducible refine Ext.on _ ?_ (by first | omega | (simp; done) | (simp; omega))
def Perm (op ty num : Int) (text : ByteArray) : Prop := 5 ≤ op ∨ (op = 1 ∧ (ty = 1 ∨ ty = 2 ∨ ty = 3)) ∨ ((op = 2 ∨ op = 3 ∨ op = 4) ∧ vB (litV op num text).k (litV op num text).n (litV op num text).s = true)
set_option maxHeartbeats 2000000 in
theorem permitted_calls (e : Ex) (a : Option Addr) (len cap : Nat) (w : World) (h : Perm e.op e.ty e.num e.text) (hs : e.text.size ≤ maxLen) :
    Calls Tryd.prog 69 #[.agg #[.int .i64 e.op, .int .i64 e.ty, .int .i64 e.num, .string e.text, .int .i64 e.col, .slice a len cap]] w fun r w' => r = .returned (.bool true) ∧ Cls w w' := by
  rcases h with h | ⟨h, ht⟩ | ⟨h, hv⟩
  · have b1 : (e.op == 1) = false := by simp; omega
    have b2 : (e.op == 2) = false := by simp; omega
    have b3 : (e.op == 3) = false := by simp; omega
    have b4 : (e.op == 4) = false := by simp; omega
    go_enter Tryd.func69, Tryd.ntmps69
    go_wp2_with fail
    go_ret
    refine ⟨ret_bool rfl, Cls.of ?_⟩
    repeat first | with_reducible exact Below.refl _ _ | with_reducible refine Below.setCell ?_ (by first | omega | (simp; done) | (simp; omega)) _ | with_reducible refine Below.alloc ?_ (by first | omega | (simp; done) | (simp; omega)) _ | with_reducible refine Below.drew ?_ | with_reducible refine Ext.on _ ?_ (by first | omega | (simp; done) | (simp; omega))
  · have b1 : (e.op == 1) = true := by simp [h]
    have C1 := Lib.hid (fun W => isType_calls e.ty W ht)
    clear ht h
    go_enter Tryd.func69, Tryd.ntmps69
    go_wp2_with (go_at_call 107; ((with_reducible refine (C1.out _).mono ?_); rintro r _ ⟨rfl, y, rfl⟩))
    go_ret
    refine ⟨ret_bool rfl, Cls.of ?_⟩
    repeat first | with_reducible exact Below.refl _ _ | with_reducible refine Below.setCell ?_ (by first | omega | (simp; done) | (simp; omega)) _ | with_reducible refine Below.alloc ?_ (by first | omega | (simp; done) | (simp; omega)) _ | with_reducible refine Below.drew ?_ | with_reducible refine Ext.on _ ?_ (by first | omega | (simp; done) | (simp; omega))
  · have hsz : (litV e.op e.num e.text).s.size ≤ maxLen := by
      unfold litV
      split
      · exact Nat.zero_le _
      · split
        · exact Nat.zero_le _
        · split
          · exact hs
          · exact Nat.zero_le _
    have CL : Hid (∀ W, Calls Tryd.prog 34 #[.agg #[.int .i64 e.op, .int .i64 e.ty, .int .i64 e.num, .string e.text, .int .i64 e.col, .slice a len cap]] W fun r w' => r = .returned (.agg #[.int .i64 (litV e.op e.num e.text).k, .int .i64 (litV e.op e.num e.text).n, .string (litV e.op e.num e.text).s]) ∧ Cls W w') := Lib.hid (fun W => literal_calls e a len cap W (by omega))
    have CV : Hid (∀ W, Calls Tryd.prog 108 #[.agg #[.int .i64 (litV e.op e.num e.text).k, .int .i64 (litV e.op e.num e.text).n, .string (litV e.op e.num e.text).s]] W fun r w' => r = .returned (.bool true) ∧ Cls W w') := Lib.hid (fun W => by
      have := Valid_calls (litV e.op e.num e.text).k (litV e.op e.num e.text).n (litV e.op e.num e.text).s W hsz
      rw [hv] at this
      exact this)
    clear hv hsz hs
    generalize litV e.op e.num e.text = v at CL CV
    have b1 : (e.op == 1) = false := by simp; omega
    rcases h with h | h | h
    · have b2 : (e.op == 2) = true := by simp [h]
      clear h
      go_enter Tryd.func69, Tryd.ntmps69
      go_wp2_with (first | (go_at_call 34; ((with_reducible refine (CL.out _).mono ?_); rintro r _ ⟨rfl, y, rfl⟩; have ys := y.size; simp at ys)) | (go_at_call 108; ((with_reducible refine (CV.out _).mono ?_); rintro r _ ⟨rfl, y2, rfl⟩)))
      go_ret
      refine ⟨ret_bool rfl, Cls.of ?_⟩
      repeat first | with_reducible exact Below.refl _ _ | with_reducible refine Below.setCell ?_ (by first | omega | (simp; done) | (simp; omega)) _ | with_reducible refine Below.alloc ?_ (by first | omega | (simp; done) | (simp; omega)) _ | with_reducible refine Below.drew ?_ | with_reducible refine Ext.on _ ?_ (by first | omega | (simp; done) | (simp; omega))
    · have b2 : (e.op == 2) = false := by simp [h]
      have b3 : (e.op == 3) = true := by simp [h]
      clear h
      go_enter Tryd.func69, Tryd.ntmps69
      go_wp2_with (first | (go_at_call 34; ((with_reducible refine (CL.out _).mono ?_); rintro r _ ⟨rfl, y, rfl⟩; have ys := y.size; simp at ys)) | (go_at_call 108; ((with_reducible refine (CV.out _).mono ?_); rintro r _ ⟨rfl, y2, rfl⟩)))
      go_ret
      refine ⟨ret_bool rfl, Cls.of ?_⟩
      repeat first | with_reducible exact Below.refl _ _ | with_reducible refine Below.setCell ?_ (by first | omega | (simp; done) | (simp; omega)) _ | with_reducible refine Below.alloc ?_ (by first | omega | (simp; done) | (simp; omega)) _ | with_reducible refine Below.drew ?_ | with_reducible refine Ext.on _ ?_ (by first | omega | (simp; done) | (simp; omega))
    · have b2 : (e.op == 2) = false := by simp [h]
      have b3 : (e.op == 3) = false := by simp [h]
      have b4 : (e.op == 4) = true := by simp [h]
      clear h
      go_enter Tryd.func69, Tryd.ntmps69
      go_wp2_with (first | (go_at_call 34; ((with_reducible refine (CL.out _).mono ?_); rintro r _ ⟨rfl, y, rfl⟩; have ys := y.size; simp at ys)) | (go_at_call 108; ((with_reducible refine (CV.out _).mono ?_); rintro r _ ⟨rfl, y2, rfl⟩)))
      go_ret
      refine ⟨ret_bool rfl, Cls.of ?_⟩
      repeat first | with_reducible exact Below.refl _ _ | with_reducible refine Below.setCell ?_ (by first | omega | (simp; done) | (simp; omega)) _ | with_reducible refine Below.alloc ?_ (by first | omega | (simp; done) | (simp; omega)) _ | with_reducible refine Below.drew ?_ | with_reducible refine Ext.on _ ?_ (by first | omega | (simp; done) | (simp; omega))
end Go.Proofs.YtkmpaonakhfcjaaDoor
