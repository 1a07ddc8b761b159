/-
  The program's Eval gives evalE: for all expressions, rows and worlds.
-/
import Derived.Test.YtkmpaonakhfcjaaDoorEvalc
set_option linter.unusedVariables false
namespace Go.Proofs.YtkmpaonakhfcjaaDoor
open Go Go.RowKit
theorem empty_size : (⟨#[]⟩ : ByteArray).size ≤ maxLen := by unfold maxLen; show (0 : Nat) ≤ _; omega
theorem arV3_size (op : Int) (a b : Vl) : (arV3 op a b).s.size ≤ maxLen := by
  show (arS op a.k a.n a.s b.k b.n b.s).size ≤ maxLen
  unfold arS
  by_cases h : arOk op a.k a.n a.s b.k b.n b.s = true
  · rw [if_pos h]
    by_cases h2 : op = 12
    · rw [if_pos h2]
      subst h2
      simp only [arOk, Bool.and_eq_true, if_true, textB, decide_eq_true_eq] at h
      have := h.2.2.1
      unfold maxLen
      omega
    · rw [if_neg h2]; exact empty_size
  · rw [if_neg h]; exact empty_size
theorem unV_size (op : Int) (a : Vl) : (unV op a).s.size ≤ maxLen := by
  unfold unV
  repeat' split
  all_goals first | exact arV3_size _ _ _ | exact empty_size
theorem biV_size (op : Int) (a b : Vl) (ha : a.s.size ≤ maxLen) (hb : b.s.size ≤ maxLen) : (biV op a b).s.size ≤ maxLen := by
  unfold biV
  repeat' split
  all_goals first | exact ha | exact hb | exact arV3_size _ _ _ | exact empty_size
theorem inV_size (v : Vl) : ∀ (l : List Vl) (acc : Vl), acc.s.size ≤ maxLen → (inV v l acc).s.size ≤ maxLen
  | [], acc, h => by rw [inV]; exact h
  | x :: r, acc, h => by rw [inV]; exact inV_size v r _ empty_size
theorem getD_size {l : List Vl} (h : ∀ v ∈ l, v.s.size ≤ maxLen) (i : Nat) : (l.getD i Vl.z).s.size ≤ maxLen := by
  by_cases hi : i < l.length
  · have : l.getD i Vl.z ∈ l := by simp [List.getD, hi]
    exact h _ this
  · have : l.getD i Vl.z = Vl.z := by simp [List.getD, Nat.le_of_not_lt hi]
    rw [this]; exact empty_size
theorem opV_size (op num : Int) (text : ByteArray) (col : Int) (row vs : List Vl) (ht : text.size ≤ maxLen) (hr : ∀ v ∈ row, v.s.size ≤ maxLen) (hv : ∀ v ∈ vs, v.s.size ≤ maxLen) : (opV op num text col row vs).s.size ≤ maxLen := by
  unfold opV colV litV
  repeat' split
  all_goals first | exact empty_size | exact ht | exact getD_size hr _ | exact getD_size hv _ | exact inV_size _ _ _ empty_size | exact unV_size _ _ | exact biV_size _ _ _ (getD_size hv _) (getD_size hv _)
theorem evalE_size (row : List Vl) (hr : ∀ v ∈ row, v.s.size ≤ maxLen) : ∀ (e : Ex) (w : World) (ok : Nat → Prop) (a : Option Addr) (len cap : Nat), Kids w ok a len cap e.kids → e.fine → (evalE e row).s.size ≤ maxLen := by
  refine Ex.ind fun e ih => ?_
  intro w ok a len cap hk hf
  rw [evalE_eq]
  refine opV_size _ _ _ _ _ _ hf.2.2.2.1 hr fun v hv => ?_
  obtain ⟨k, hk1, rfl⟩ := List.mem_map.1 hv
  obtain ⟨i, hi, rfl⟩ := List.mem_iff_getElem.1 hk1
  obtain ⟨a', len', cap', _, hf', hk'⟩ := hk.at_ (i := i) (by rw [← hk.len_eq]; exact hi)
  have he : e.kids.getD i Ex.z = e.kids[i] := by simp [List.getD, hi]
  rw [he] at hf' hk'
  exact ih _ hk1 w ok a' len' cap' hk' hf'
/-- The program's Eval. -/
theorem Eval_calls : ∀ e, EvalOf e := by
  refine Ex.ind fun e ih => ?_
  intro a len cap ok ra rlen rcap row w hk hf hr ht
  have hlen := hk.len_eq
  have hle := hk.le
  have hmax := hk.max
  have hmax' := hmax
  unfold maxLen at hmax'
  have hEv := evalE_eq e row
  by_cases ho : e.op < 1 ∨ 29 ≤ e.op
  · have hz : evalE e row = Vl.z := by
      rw [hEv]; unfold opV
      rcases ho with h | h
      · rw [if_pos h]
      · rw [if_neg (by omega), if_pos h]
    rw [hz]
    exact eval_unknown e a len cap ok ra rlen rcap row w (Lib.hid (fun W hW => find_no e.op W ho))
  · obtain ⟨n, hn⟩ : ∃ n : Nat, e.op = (n : Int) := ⟨e.op.toNat, by omega⟩
    have h1 : 1 ≤ n := by omega
    have h2 : n < 29 := by omega
    have CF : Hid (∀ W, Below w.heap.size w W → Calls Tryd.prog 31 #[.int .i64 e.op] W fun r w' => r = .returned (.tuple #[.agg #[.string ⟨(oRow n).word.toArray⟩, .int .i64 (oRow n).has, .int .i64 (oRow n).first, .int .i64 (oRow n).others, .int .i64 (oRow n).gives], .bool true]) ∧ Cls W w') := Lib.hid (fun W hW => by rw [hn]; exact find_yes n W h1 h2 (ht.later hW))
    have CT0 : ∀ W, Below w.heap.size w W → Calls Tryd.prog 32 #[.agg #[.string ⟨(oRow n).word.toArray⟩, .int .i64 (oRow n).has, .int .i64 (oRow n).first, .int .i64 (oRow n).others, .int .i64 (oRow n).gives], .int .i64 (len : Nat)] W fun r w' => r = .returned (.bool (takesO n len)) ∧ Cls W w' := fun W hW => by
      have := takes_calls (oRow n) len W (has_ok n h1 h2)
      rw [takes_eq n h1 h2] at this
      exact this
    have hOne := one_eq n h1 h2
    have hsz : ∀ i, i < len → (evalE (e.kids.getD i Ex.z) row).s.size ≤ maxLen := fun i hi => by
      obtain ⟨a', len', cap', _, hf', hk'⟩ := hk.at_ hi
      exact evalE_size row hr.2.2.2.1 _ w ok a' len' cap' hk' hf'
    have hml : (e.kids.map (evalE · row)).length = len := by rw [List.length_map, hlen]
    cases htk : takesO n len with
    | false =>
      rw [htk] at CT0
      have hz : evalE e row = Vl.z := by
        rw [hEv]; unfold opV
        rw [if_neg (by omega), if_neg (by omega), if_pos (by rw [hml, hn]; exact htk)]
      rw [hz]
      exact eval_arity e a len cap ok ra rlen rcap row w (oRow n) CF (Lib.hid CT0)
    | true =>
      rw [htk] at CT0
      have CT := Lib.hid CT0
      clear CT0
      have hz : evalE e row = (if e.op = 5 then colV e.col row else if e.op ≤ 4 then litV e.op e.num e.text
          else if e.op = 26 then (if trV ((e.kids.map (evalE · row)).getD 0 Vl.z) = 1 then (e.kids.map (evalE · row)).getD 1 Vl.z else (e.kids.map (evalE · row)).getD 2 Vl.z)
          else if e.op = 28 then inV ((e.kids.map (evalE · row)).getD 0 Vl.z) ((e.kids.map (evalE · row)).drop 1) (tvV 0)
          else if oneB e.op = true then unV e.op ((e.kids.map (evalE · row)).getD 0 Vl.z) else biV e.op ((e.kids.map (evalE · row)).getD 0 Vl.z) ((e.kids.map (evalE · row)).getD 1 Vl.z)) := by
        rw [hEv]; unfold opV
        rw [if_neg (by omega), if_neg (by omega), if_neg (by rw [hml, hn, htk]; exact Bool.noConfusion)]
      have hgd : ∀ i, i < len → (e.kids.map (evalE · row)).getD i Vl.z = evalE (e.kids.getD i Ex.z) row := fun i hi => by
        have : i < e.kids.length := by omega
        simp [List.getD, this]
      clear hEv
      by_cases h5 : e.op = 5
      · have b5 : (e.op == 5) = true := by rw [h5]; rfl
        rw [hz, if_pos h5]
        exact eval_column e a len cap ok ra rlen rcap row w _ (oRow n) CF CT b5 (Lib.hid (fun W hW => column_calls e.col ra rlen rcap row W (hr.later hW)))
      have b5 : (e.op == 5) = false := by simpa using h5
      rw [hz, if_neg h5]
      clear hz
      by_cases h4 : e.op ≤ 4
      · rw [if_pos h4]
        have CL : Hid (∀ W, Below w.heap.size w W → Calls Tryd.prog 34 #[.agg #[.int .i64 e.op, .int .i64 e.ty, .int .i64 e.num, .string e.text, .int .i64 e.col, .slice a len cap]] W fun r w' => r = .returned (.agg #[.int .i64 (litV e.op e.num e.text).k, .int .i64 (litV e.op e.num e.text).n, .string (litV e.op e.num e.text).s]) ∧ Cls W w') := Lib.hid (fun W hW => literal_calls e a len cap W (by omega))
        by_cases g1 : e.op = 1
        · exact eval_lit1 e a len cap ok ra rlen rcap row w _ (oRow n) CF CT b5 (by rw [g1]; rfl) CL
        have b1 : (e.op == 1) = false := by simpa using g1
        by_cases g2 : e.op = 2
        · exact eval_lit2 e a len cap ok ra rlen rcap row w _ (oRow n) CF CT b5 b1 (by rw [g2]; rfl) CL
        have b2 : (e.op == 2) = false := by simpa using g2
        by_cases g3 : e.op = 3
        · exact eval_lit3 e a len cap ok ra rlen rcap row w _ (oRow n) CF CT b5 b1 b2 (by rw [g3]; rfl) CL
        have b3 : (e.op == 3) = false := by simpa using g3
        have g4 : e.op = 4 := by omega
        exact eval_lit4 e a len cap ok ra rlen rcap row w _ (oRow n) CF CT b5 b1 b2 b3 (by rw [g4]; rfl) CL
      rw [if_neg h4]
      have b1 : (e.op == 1) = false := by simp; omega
      have b2 : (e.op == 2) = false := by simp; omega
      have b3 : (e.op == 3) = false := by simp; omega
      have b4 : (e.op == 4) = false := by simp; omega
      have hn5 : ¬ (n : Int) ≤ 5 := by omega
      by_cases h26 : e.op = 26
      · have hl3 : len = 3 := by
          have : n = 26 := by omega
          subst this
          simpa [takesO, oneB] using htk
        rw [if_pos h26, hgd 0 (by omega), hgd 1 (by omega), hgd 2 (by omega)]
        subst hl3
        exact eval_case e a 3 cap ok ra rlen rcap row w _ (oRow n) CF CT b5 b1 b2 b3 b4 (by rw [h26]; rfl) (Lib.hid (fun W hW => choose_calls e.kids ih a cap ok ra rlen rcap row W (hk.later hW) (hr.later hW) (ht.later hW)))
      rw [if_neg h26]
      have b26 : (e.op == 26) = false := by simpa using h26
      by_cases h28 : e.op = 28
      · have hl2 : 2 ≤ len := by
          have : n = 28 := by omega
          subst this
          simpa [takesO, oneB] using htk
        rw [if_pos h28, hgd 0 (by omega), ← List.map_drop]
        exact eval_in e a len cap ok ra rlen rcap row w _ (oRow n) CF CT b5 b1 b2 b3 b4 b26 (by rw [h28]; rfl) (Lib.hid (fun W hW => member_calls e.kids ih a len cap ok ra rlen rcap row W (hk.later hW) hl2 (hr.later hW) (ht.later hW)))
      rw [if_neg h28]
      have b28 : (e.op == 28) = false := by simpa using h28
      have hoe : oneB e.op = oneB n := by rw [hn]
      cases hb : oneB (n : Int) with
      | true =>
        have hl1 : len = 1 := by
          simp only [takesO, if_neg hn5, hb, if_true, decide_eq_true_eq] at htk
          exact htk
        rw [hoe, hb, if_pos rfl, hgd 0 (by omega)]
        have hs0 := hsz 0 (by omega)
        have hun : e.op = 11 ∨ e.op = 13 ∨ e.op = 21 ∨ e.op = 24 ∨ e.op = 25 := by
          simp only [oneB, Bool.or_eq_true, beq_iff_eq] at hb
          omega
        obtain ⟨a0, len0, cap0, ⟨b0, off0, E0, hb0, _, kc0⟩, f0, k0⟩ := hk.at_ (i := 0) (by omega)
        have C0 : Hid (∀ W, Below w.heap.size w W → Calls Tryd.prog 13 #[.agg #[.int .i64 (e.kids.getD 0 Ex.z).op, .int .i64 (e.kids.getD 0 Ex.z).ty, .int .i64 (e.kids.getD 0 Ex.z).num, .string (e.kids.getD 0 Ex.z).text, .int .i64 (e.kids.getD 0 Ex.z).col, .slice a0 len0 cap0], .slice ra rlen rcap] W fun r w' => r = .returned (.agg #[.int .i64 (evalE (e.kids.getD 0 Ex.z) row).k, .int .i64 (evalE (e.kids.getD 0 Ex.z) row).n, .string (evalE (e.kids.getD 0 Ex.z) row).s]) ∧ Cls W w') := Lib.hid (fun W hW => ih _ (getD_mem (by omega)) a0 len0 cap0 ok ra rlen rcap row W (k0.later hW) f0 (hr.later hW) (ht.later hW))
        subst E0
        simp only [Nat.zero_mul, Nat.add_zero, Nat.one_mul, Nat.reduceMul, Nat.add_assoc, Nat.reduceAdd] at kc0
        exact eval_unary w e b0 off0 hb0 len cap hle hmax' ra rlen rcap _ (oRow n) (by omega) (e.kids.getD 0 Ex.z) a0 len0 cap0 (evalE (e.kids.getD 0 Ex.z) row) kc0 C0 CF CT b5 b1 b2 b3 b4 b26 b28 (by rw [hOne]; exact hb) (Lib.hid (fun W hW => unary_calls e.op _ W hs0 hun))
      | false =>
        have hl2 : len = 2 := by
          simp only [takesO, if_neg hn5, hb, Bool.false_eq_true, if_false, if_neg (show ¬ (n : Int) = 26 by omega), if_neg (show ¬ (n : Int) = 28 by omega), decide_eq_true_eq] at htk
          exact htk
        rw [hoe, hb, if_neg Bool.false_ne_true, hgd 0 (by omega), hgd 1 (by omega)]
        have hs0 := hsz 0 (by omega)
        have hs1 := hsz 1 (by omega)
        have hbi : e.op = 27 ∨ e.op = 6 ∨ e.op = 7 ∨ e.op = 8 ∨ e.op = 9 ∨ e.op = 10 ∨ e.op = 12 ∨ e.op = 14 ∨ e.op = 15 ∨ e.op = 16 ∨ e.op = 17 ∨ e.op = 18 ∨ e.op = 19 ∨ e.op = 20 ∨ e.op = 22 ∨ e.op = 23 := by
          simp only [oneB, Bool.or_eq_false_iff, beq_eq_false_iff_ne, ne_eq] at hb
          omega
        obtain ⟨a0, len0, cap0, ⟨b0, off0, E0, hb0, _, kc0⟩, f0, k0⟩ := hk.at_ (i := 0) (by omega)
        have C0 : Hid (∀ W, Below w.heap.size w W → Calls Tryd.prog 13 #[.agg #[.int .i64 (e.kids.getD 0 Ex.z).op, .int .i64 (e.kids.getD 0 Ex.z).ty, .int .i64 (e.kids.getD 0 Ex.z).num, .string (e.kids.getD 0 Ex.z).text, .int .i64 (e.kids.getD 0 Ex.z).col, .slice a0 len0 cap0], .slice ra rlen rcap] W fun r w' => r = .returned (.agg #[.int .i64 (evalE (e.kids.getD 0 Ex.z) row).k, .int .i64 (evalE (e.kids.getD 0 Ex.z) row).n, .string (evalE (e.kids.getD 0 Ex.z) row).s]) ∧ Cls W w') := Lib.hid (fun W hW => ih _ (getD_mem (by omega)) a0 len0 cap0 ok ra rlen rcap row W (k0.later hW) f0 (hr.later hW) (ht.later hW))
        subst E0
        simp only [Nat.zero_mul, Nat.add_zero, Nat.one_mul, Nat.reduceMul, Nat.add_assoc, Nat.reduceAdd] at kc0
        obtain ⟨a1, len1, cap1, ⟨b1, off1, E1, hb1, _, kc1⟩, f1, k1⟩ := hk.at_ (i := 1) (by omega)
        have C1 : Hid (∀ W, Below w.heap.size w W → Calls Tryd.prog 13 #[.agg #[.int .i64 (e.kids.getD 1 Ex.z).op, .int .i64 (e.kids.getD 1 Ex.z).ty, .int .i64 (e.kids.getD 1 Ex.z).num, .string (e.kids.getD 1 Ex.z).text, .int .i64 (e.kids.getD 1 Ex.z).col, .slice a1 len1 cap1], .slice ra rlen rcap] W fun r w' => r = .returned (.agg #[.int .i64 (evalE (e.kids.getD 1 Ex.z) row).k, .int .i64 (evalE (e.kids.getD 1 Ex.z) row).n, .string (evalE (e.kids.getD 1 Ex.z) row).s]) ∧ Cls W w') := Lib.hid (fun W hW => ih _ (getD_mem (by omega)) a1 len1 cap1 ok ra rlen rcap row W (k1.later hW) f1 (hr.later hW) (ht.later hW))
        cases E1
        simp only [Nat.zero_mul, Nat.add_zero, Nat.one_mul, Nat.reduceMul, Nat.add_assoc, Nat.reduceAdd] at kc1
        exact eval_binary w e b0 off0 hb0 len cap hle hmax' ra rlen rcap _ (oRow n) (by omega) (e.kids.getD 0 Ex.z) a0 len0 cap0 (evalE (e.kids.getD 0 Ex.z) row) kc0 C0 (e.kids.getD 1 Ex.z) a1 len1 cap1 (evalE (e.kids.getD 1 Ex.z) row) kc1 C1 CF CT b5 b1 b2 b3 b4 b26 b28 (by rw [hOne]; exact hb)
          (Lib.hid (fun W hW => by
            rcases hbi with h27 | hbi
            · rw [h27]; exact coalesce_calls _ _ W
            · exact binary_calls e.op _ _ W hs0 hs1 hbi))
end Go.Proofs.YtkmpaonakhfcjaaDoor
