/-
  The program's Type of the expressions that the tape makes.
-/
import Derived.Test.YtonlmhehddbhoaaDoorJ24
import Derived.Test.YtonlmhehddbhoaaDoorJ19
set_option linter.unusedVariables false
namespace Go.Proofs.YtonlmhehddbhoaaDoor
open Go Go.RowKit Go.Deep
instance (o : ORow) (ks : List Int) : Decidable (Fits o ks) := inferInstanceAs (Decidable (∀ j, j < ks.length → ks.getD j 0 = if wantAt o j = -1 then oneAt o ks (j + 1) else wantAt o j))
/-- What the table says of an operation over Kids of one type. -/
def Row_ok (n : Nat) (x k : Int) (m : Nat) : Prop := Fits (oRow n) (List.replicate m x) ∧ givesOf (oRow n) (List.replicate m x) = k ∧ takesH (oRow n).has m = true
instance (n : Nat) (x k : Int) (m : Nat) : Decidable (Row_ok n x k m) := inferInstanceAs (Decidable (_ ∧ _ ∧ _))
theorem sig_row {k op x : Int} {m : Nat} (h : Sig k op x m) (hk : IsTy k) (hx : IsTy x) : ∃ n : Nat, op = (n : Int) ∧ 6 ≤ n ∧ n < 29 ∧ Row_ok n x k m := by
  unfold Sig at h
  rcases h with ⟨rfl, rfl, rfl⟩ | ⟨⟨h1, h2⟩, rfl, rfl, rfl⟩ | ⟨rfl, rfl, rfl, rfl⟩ | ⟨rfl, rfl, rfl, rfl⟩ | ⟨rfl, rfl, rfl, rfl⟩ | ⟨rfl | rfl, rfl, rfl, rfl⟩ | ⟨rfl | rfl, rfl, rfl, rfl⟩ | ⟨rfl, rfl, hx, rfl⟩ | ⟨rfl, rfl, hx, g1, g2⟩ | ⟨⟨h1, h2⟩, rfl, hx, rfl⟩
  · refine ⟨27, rfl, by decide, by decide, ?_⟩
    rcases hk with rfl | rfl | rfl <;> decide
  · have : op = 6 ∨ op = 7 ∨ op = 8 ∨ op = 9 ∨ op = 10 := by omega
    rcases this with rfl | rfl | rfl | rfl | rfl
    · exact ⟨6, rfl, by decide, by decide, by decide⟩
    · exact ⟨7, rfl, by decide, by decide, by decide⟩
    · exact ⟨8, rfl, by decide, by decide, by decide⟩
    · exact ⟨9, rfl, by decide, by decide, by decide⟩
    · exact ⟨10, rfl, by decide, by decide, by decide⟩
  · exact ⟨11, rfl, by decide, by decide, by decide⟩
  · exact ⟨13, rfl, by decide, by decide, by decide⟩
  · exact ⟨12, rfl, by decide, by decide, by decide⟩
  · exact ⟨22, rfl, by decide, by decide, by decide⟩
  · exact ⟨23, rfl, by decide, by decide, by decide⟩
  · exact ⟨24, rfl, by decide, by decide, by decide⟩
  · exact ⟨25, rfl, by decide, by decide, by decide⟩
  · refine ⟨21, rfl, by decide, by decide, ?_⟩
    rcases hx with rfl | rfl | rfl <;> decide
  · refine ⟨28, rfl, by decide, by decide, ?_⟩
    have : m = 2 ∨ m = 3 ∨ m = 4 := by omega
    rcases this with rfl | rfl | rfl <;> rcases hx with rfl | rfl | rfl <;> decide
  · have : op = 14 ∨ op = 15 ∨ op = 16 ∨ op = 17 ∨ op = 18 ∨ op = 19 ∨ op = 20 := by omega
    rcases this with rfl | rfl | rfl | rfl | rfl | rfl | rfl
    · refine ⟨14, rfl, by decide, by decide, ?_⟩
      rcases hx with rfl | rfl | rfl <;> decide
    · refine ⟨15, rfl, by decide, by decide, ?_⟩
      rcases hx with rfl | rfl | rfl <;> decide
    · refine ⟨16, rfl, by decide, by decide, ?_⟩
      rcases hx with rfl | rfl | rfl <;> decide
    · refine ⟨17, rfl, by decide, by decide, ?_⟩
      rcases hx with rfl | rfl | rfl <;> decide
    · refine ⟨18, rfl, by decide, by decide, ?_⟩
      rcases hx with rfl | rfl | rfl <;> decide
    · refine ⟨19, rfl, by decide, by decide, ?_⟩
      rcases hx with rfl | rfl | rfl <;> decide
    · refine ⟨20, rfl, by decide, by decide, ?_⟩
      rcases hx with rfl | rfl | rfl <;> decide
theorem sig_ty {k op x : Int} {m : Nat} (h : Sig k op x m) (hk : IsTy k) : IsTy x := by
  unfold Sig at h
  rcases h with ⟨rfl, rfl, rfl⟩ | ⟨⟨h1, h2⟩, rfl, rfl, rfl⟩ | ⟨rfl, rfl, rfl, rfl⟩ | ⟨rfl, rfl, rfl, rfl⟩ | ⟨rfl, rfl, rfl, rfl⟩ | ⟨rfl | rfl, rfl, rfl, rfl⟩ | ⟨rfl | rfl, rfl, rfl, rfl⟩ | ⟨rfl, rfl, hx, rfl⟩ | ⟨rfl, rfl, hx, g1, g2⟩ | ⟨⟨h1, h2⟩, rfl, hx, rfl⟩
  all_goals first | assumption | exact .inl rfl | exact .inr (.inl rfl) | exact .inr (.inr rfl)
theorem case_row {k : Int} (hk : IsTy k) : Fits (oRow 26) [2, k, k] ∧ givesOf (oRow 26) [2, k, k] = k := by
  rcases hk with rfl | rfl | rfl <;> decide
theorem sig_few' {k op x : Int} {n : Nat} (h : Sig k op x n) : n ≤ 4 := by
  unfold Sig at h; omega
theorem only0 (f : Int) : Only 0 0 ⟨#[]⟩ 0 f := ⟨.inl rfl, .inl rfl, .inl rfl, .inl rfl⟩
theorem const_row {k : Int} {v : Vl} (h : okV k v) (hk : IsTy k) : ∃ n : Nat, cOp v.k = (n : Int) ∧ 1 ≤ n ∧ n < 5 ∧ Only (cTy v.k k) (cNum v.k v.n) (cTxt v.k v.s) 0 (oRow n).has ∧ Perm (cOp v.k) (cTy v.k k) (cNum v.k v.n) (cTxt v.k v.s) ∧ takesH (oRow n).has 0 = true ∧ (cTxt v.k v.s).size ≤ maxLen ∧
    ((n = 1 ∧ k = cTy v.k k) ∨ (n ≠ 1 ∧ n ≠ 5 ∧ Fits (oRow n) [] ∧ givesOf (oRow n) [] = k)) := by
  have hc := okV_const ([] : List Vl) h
  have hsz := okV_size h
  obtain ⟨vk, vn, vs⟩ := v
  obtain ⟨h1, h2⟩ := h
  simp only at h1 h2 hc hsz ⊢
  have hs24 : vs.size ≤ maxLen := by unfold maxLen; omega
  by_cases k0 : vk = 0
  · subst k0
    exact ⟨1, rfl, by decide, by decide, ⟨.inr rfl, .inl rfl, .inl rfl, .inl rfl⟩, .inr (.inl ⟨rfl, hk⟩), rfl, Nat.zero_le _, .inl ⟨rfl, rfl⟩⟩
  · obtain rfl := h1.resolve_left k0
    rcases hk with rfl | rfl | rfl
    · exact ⟨2, rfl, by decide, by decide, ⟨.inl rfl, .inr rfl, .inl rfl, .inl rfl⟩, .inr (.inr ⟨.inl rfl, hc.2⟩), rfl, Nat.zero_le _, .inr ⟨by decide, by decide, by decide, by decide⟩⟩
    · exact ⟨3, rfl, by decide, by decide, ⟨.inl rfl, .inr rfl, .inl rfl, .inl rfl⟩, .inr (.inr ⟨.inr (.inl rfl), hc.2⟩), rfl, Nat.zero_le _, .inr ⟨by decide, by decide, by decide, by decide⟩⟩
    · exact ⟨4, rfl, by decide, by decide, ⟨.inl rfl, .inl rfl, .inr rfl, .inl rfl⟩, .inr (.inr ⟨.inr (.inr rfl), hc.2⟩), rfl, hs24, .inr ⟨by decide, by decide, by decide, by decide⟩⟩
theorem Ex.eta (e : Ex) : e = .mk e.op e.ty e.num e.text e.col e.kids := by cases e; rfl
theorem typeOf_made {ty : List Int} (htys : ∀ c, c < ty.length → IsTy (ty.getD c 0)) {d : Nat} {k : Int} {e : Ex} (h : Made ty d k e) : IsTy k → ∀ (ta : Option Addr) (tlen tcap : Nat) (a : Option Addr) (len cap : Nat) (ok : Nat → Prop) (w : World), NumIn w ta tlen tcap ty → Kids w ok a len cap e.kids → OpsTab w →
    Calls Tryd.prog 25 #[.slice ta tlen tcap, .agg #[.int .i64 e.op, .int .i64 e.ty, .int .i64 e.num, .string e.text, .int .i64 e.col, .slice a len cap]] w fun r w' => r = .returned (.tuple #[.int .i64 k, .int .i64 0]) ∧ Cls w w' := by
  induction h with
  | col k c hc h =>
    intro hk ta tlen tcap a len cap ok w hty hkk ho
    have hl : len = 0 := by have := hkk.len_eq; simpa [Ex.kids] using this.symm
    subst hl
    subst h
    exact typeOf_walk _ 5 rfl (by decide) (by decide) [] _ ty ta tlen tcap a 0 cap ok w hty hkk rfl (by omega) (Nat.zero_le _) ho (fun j hj => absurd hj (by omega)) ⟨.inl rfl, .inl rfl, .inl rfl, .inr rfl⟩ (.inl (by show (5 : Int) ≤ 5; decide)) rfl (.inr (.inl ⟨rfl, c, rfl, by rw [← hty.1]; exact hc, htys c hc, rfl⟩))
  | const k v h =>
    intro hk ta tlen tcap a len cap ok w hty hkk ho
    have hl : len = 0 := by have := hkk.len_eq; simpa [Ex.kids] using this.symm
    subst hl
    obtain ⟨n, hn, h1, h2, h3, h4, h5, h6, h7⟩ := const_row h hk
    exact typeOf_walk (.mk (cOp v.k) (cTy v.k k) (cNum v.k v.n) (cTxt v.k v.s) 0 []) n hn h1 (by omega) [] k ty ta tlen tcap a 0 cap ok w hty hkk rfl (by omega) h6 ho (fun j hj => absurd hj (by omega)) h3 h4 h5 (by
      rcases h7 with h | h
      · exact .inl h
      · exact .inr (.inr h))
  | case k c a b hc ha hb ihc iha ihb =>
    intro hk ta tlen tcap a' len cap ok w hty hkk ho
    have hl : len = 3 := by have := hkk.len_eq; simpa [Ex.node, Ex.kids] using this.symm
    subst hl
    obtain ⟨g1, g2⟩ := case_row hk
    refine typeOf_walk _ 26 rfl (by decide) (by decide) [2, k, k] k ty ta tlen tcap a' 3 cap ok w hty hkk rfl (by omega) (Nat.zero_le _) ho (fun j hj a2 len2 cap2 W g3 g4 g5 => ?_) (only0 _) (.inl (by show (5 : Int) ≤ 26; decide)) rfl (.inr (.inr ⟨by decide, by decide, g1, g2⟩))
    rcases (by omega : j = 0 ∨ j = 1 ∨ j = 2) with rfl | rfl | rfl
    · exact ihc (.inr (.inl rfl)) ta tlen tcap a2 len2 cap2 ok W g3 g4 g5
    · exact iha hk ta tlen tcap a2 len2 cap2 ok W g3 g4 g5
    · exact ihb hk ta tlen tcap a2 len2 cap2 ok W g3 g4 g5
  | node k op x l h hl2 ih =>
    intro hk ta tlen tcap a' len cap ok w hty hkk ho
    have hl : l.length = len := hkk.len_eq
    subst hl
    have hx := sig_ty h hk
    have h4 := sig_few' h
    obtain ⟨n, rfl, h1, h2, g1, g2, g3⟩ := sig_row h hk hx
    refine typeOf_walk _ n rfl (by omega) h2 (List.replicate l.length x) k ty ta tlen tcap a' l.length cap ok w hty hkk (by simp) (by omega) (Nat.zero_le _) ho (fun j hj a2 len2 cap2 W g4 g5 g6 => ?_) (only0 _) (.inl (by show (5 : Int) ≤ (n : Int); omega)) g3 (.inr (.inr ⟨by omega, by omega, g1, g2⟩))
    have hm : l.getD j Ex.z ∈ l := getD_mem hj
    have := ih _ hm hx ta tlen tcap a2 len2 cap2 ok W g4 g5 g6
    rw [show (List.replicate l.length x).getD j 0 = x by simp [List.getD, hj]]
    exact this
theorem sizL_le {l : List Ex} {M : Nat} (h : ∀ e ∈ l, sizE e ≤ M) : sizL l ≤ l.length * M := by
  induction l with
  | nil => simp [sizL]
  | cons k r ih =>
    have h1 := h k (by simp)
    have h2 := ih (fun e he => h e (by simp [he]))
    rw [sizL, List.length_cons, Nat.succ_mul]
    omega
theorem depL_le {l : List Ex} {M : Nat} (h : ∀ e ∈ l, depE e ≤ M) : depL l ≤ M := by
  induction l with
  | nil => simp [depL]
  | cons k r ih =>
    have h1 := h k (by simp)
    have h2 := ih (fun e he => h e (by simp [he]))
    rw [depL]
    omega
theorem Made.bounds {ty : List Int} {d : Nat} {k : Int} {e : Ex} (h : Made ty d k e) : depE e ≤ d + 1 ∧ sizE e ≤ 5 ^ (d + 1) := by
  induction h with
  | col k c hc h => exact ⟨by simp [depE, depL], by simp only [sizE, sizL]; exact Nat.one_le_pow _ _ (by decide)⟩
  | const k v h => exact ⟨by simp [depE, depL], by simp only [sizE, sizL]; exact Nat.one_le_pow _ _ (by decide)⟩
  | @case d k c a b hc ha hb ihc iha ihb =>
    have hp : 5 ^ (d + 1 + 1) = 5 ^ (d + 1) * 5 := Nat.pow_succ ..
    have h1 : 1 ≤ 5 ^ (d + 1) := Nat.one_le_pow _ _ (by decide)
    simp only [Ex.node, depE, depL, sizE, sizL]
    omega
  | @node d k op x l h hl2 ih =>
    have hp : 5 ^ (d + 1 + 1) = 5 ^ (d + 1) * 5 := Nat.pow_succ ..
    have h1 : 1 ≤ 5 ^ (d + 1) := Nat.one_le_pow _ _ (by decide)
    have h2 := depL_le (fun e he => (ih e he).1)
    have h3 := sizL_le (fun e he => (ih e he).2)
    have h4 := sig_few' h
    have h5 : l.length * 5 ^ (d + 1) ≤ 4 * 5 ^ (d + 1) := Nat.mul_le_mul_right _ h4
    simp only [Ex.node, depE, sizE]
    omega
/-- What Type gives for an expression that the tape made. -/
def tyK (k : Int) (e : Ex) : Int := if sizE e ≤ 200 then k else 0
def tyErr (e : Ex) : Int := if sizE e ≤ 200 then 0 else 8
set_option maxHeartbeats 2000000 in
theorem Type_made {ty : List Int} (htys : ∀ c, c < ty.length → IsTy (ty.getD c 0)) {d : Nat} {k : Int} {e : Ex} (h : Made ty d k e) (hk : IsTy k) (hd : d ≤ 6) (ta : Option Addr) (tlen tcap : Nat) (a : Option Addr) (len cap : Nat) (ok : Nat → Prop) (w : World) (hty : NumIn w ta tlen tcap ty) (hkk : Kids w ok a len cap e.kids) (ho : OpsTab w) :
    Calls Tryd.prog 10 #[.slice ta tlen tcap, .agg #[.int .i64 e.op, .int .i64 e.ty, .int .i64 e.num, .string e.text, .int .i64 e.col, .slice a len cap]] w fun r w' => r = .returned (.tuple #[.int .i64 (tyK k e), .int .i64 (tyErr e)]) ∧ Cls w w' := by
  obtain ⟨hb1, hb2⟩ := h.bounds
  have hb3 : sizE e ≤ 1000000 := Nat.le_trans hb2 (Nat.le_trans (Nat.pow_le_pow_right (by decide) (show d + 1 ≤ 7 by omega)) (by decide))
  obtain ⟨u1, u2, u3⟩ := upE_bd e 200 (by decide)
  have C1 : Hid (∀ W, Below w.heap.size w W → Calls Tryd.prog 23 #[.int .i64 200, .agg #[.int .i64 e.op, .int .i64 e.ty, .int .i64 e.num, .string e.text, .int .i64 e.col, .slice a len cap]] W fun r w' => r = .returned (.int .i64 (upE e 200)) ∧ Cls W w') := Lib.hid (fun W hW => sizeUpTo_calls e 200 a len cap ok W (hkk.later hW) hb3 (by decide) (by decide))
  have C2 : Hid (∀ W, Below w.heap.size w W → Calls Tryd.prog 24 #[.agg #[.int .i64 e.op, .int .i64 e.ty, .int .i64 e.num, .string e.text, .int .i64 e.col, .slice a len cap]] W fun r w' => r = .returned (.int .i64 (depE e : Nat)) ∧ Cls W w') := Lib.hid (fun W hW => Depth_calls e a len cap ok W (hkk.later hW) (by omega))
  have C3 : Hid (∀ W, Below w.heap.size w W → Calls Tryd.prog 25 #[.slice ta tlen tcap, .agg #[.int .i64 e.op, .int .i64 e.ty, .int .i64 e.num, .string e.text, .int .i64 e.col, .slice a len cap]] W fun r w' => r = .returned (.tuple #[.int .i64 k, .int .i64 0]) ∧ Cls W w') := Lib.hid (fun W hW => typeOf_made htys h hk ta tlen tcap a len cap ok W (hty.later hW) (hkk.later hW) (ho.later hW))
  have d2 : decide (24 < ((depE e : Nat) : Int)) = false := by simp; omega
  by_cases hs : sizE e ≤ 200
  · have d1 : decide (200 < upE e 200) = false := by simp; omega
    have HK1 : Hid (tyK k e = k) := Lib.hid (if_pos hs)
    have HK2 : Hid (tyErr e = 0) := Lib.hid (if_pos hs)
    clear h hty hkk ho hs u1 u2 u3 hb1 hb2 hb3
    generalize upE e 200 = u at *
    generalize depE e = dd at *
    go_enter Tryd.func10, Tryd.ntmps10
    go_wp2_with (first | (go_at_call 23; ((with_reducible refine (C1.out _ ?_).mono ?_); (· (repeat first | with_reducible exact Below.refl _ _ | with_reducible refine Below.setCell ?_ (by first | omega | (simp; done) | (simp; omega)) _ | with_reducible refine Below.alloc ?_ (by first | omega | (simp; done) | (simp; omega)) _ | with_reducible refine Below.drew ?_ | with_reducible refine Ext.on _ ?_ (by first | omega | (simp; done) | (simp; omega)))); rintro r _ ⟨rfl, y1, rfl⟩; obtain ⟨l1, l2, l3, l4, l5⟩ := y1.lts (b := w.heap.size) (by simp))) | (go_at_call 24; ((with_reducible refine (C2.out _ ?_).mono ?_); (· (repeat first | with_reducible exact Below.refl _ _ | with_reducible refine Below.setCell ?_ (by first | omega | (simp; done) | (simp; omega)) _ | with_reducible refine Below.alloc ?_ (by first | omega | (simp; done) | (simp; omega)) _ | with_reducible refine Below.drew ?_ | with_reducible refine Ext.on _ ?_ (by first | omega | (simp; done) | (simp; omega)))); rintro r _ ⟨rfl, y2, rfl⟩; obtain ⟨m1, m2, m3, m4, m5⟩ := y2.lts l1)) | (go_at_call 25; ((with_reducible refine (C3.out _ ?_).mono ?_); (· (repeat first | with_reducible exact Below.refl _ _ | with_reducible refine Below.setCell ?_ (by first | omega | (simp; done) | (simp; omega)) _ | with_reducible refine Below.alloc ?_ (by first | omega | (simp; done) | (simp; omega)) _ | with_reducible refine Below.drew ?_ | with_reducible refine Ext.on _ ?_ (by first | omega | (simp; done) | (simp; omega)))); rintro r _ ⟨rfl, y3, rfl⟩)))
    go_ret2
    refine ⟨by rw [HK1.out, HK2.out]; rfl, Cls.of ?_⟩
    repeat first | with_reducible exact Below.refl _ _ | with_reducible refine Below.setCell ?_ (by first | omega | (simp; done) | (simp; omega)) _ | with_reducible refine Below.alloc ?_ (by first | omega | (simp; done) | (simp; omega)) _ | with_reducible refine Below.drew ?_ | with_reducible refine Ext.on _ ?_ (by first | omega | (simp; done) | (simp; omega))
  · have d1 : decide (200 < upE e 200) = true := by simp; omega
    have HK1 : Hid (tyK k e = 0) := Lib.hid (if_neg hs)
    have HK2 : Hid (tyErr e = 8) := Lib.hid (if_neg hs)
    clear h hty hkk ho hs u1 u2 u3 hb1 hb2 hb3
    generalize upE e 200 = u at *
    go_enter Tryd.func10, Tryd.ntmps10
    go_wp2_with (first | (go_at_call 23; ((with_reducible refine (C1.out _ ?_).mono ?_); (· (repeat first | with_reducible exact Below.refl _ _ | with_reducible refine Below.setCell ?_ (by first | omega | (simp; done) | (simp; omega)) _ | with_reducible refine Below.alloc ?_ (by first | omega | (simp; done) | (simp; omega)) _ | with_reducible refine Below.drew ?_ | with_reducible refine Ext.on _ ?_ (by first | omega | (simp; done) | (simp; omega)))); rintro r _ ⟨rfl, y1, rfl⟩)))
    go_ret2
    refine ⟨by rw [HK1.out, HK2.out]; rfl, Cls.of ?_⟩
    repeat first | with_reducible exact Below.refl _ _ | with_reducible refine Below.setCell ?_ (by first | omega | (simp; done) | (simp; omega)) _ | with_reducible refine Below.alloc ?_ (by first | omega | (simp; done) | (simp; omega)) _ | with_reducible refine Below.drew ?_ | with_reducible refine Ext.on _ ?_ (by first | omega | (simp; done) | (simp; omega))
end Go.Proofs.YtonlmhehddbhoaaDoor
