/-
  The program's Eval gives evalE: for all expressions, rows and worlds. The number of an expression's value is an int64. The sum of the Ints of a list of values: what the two ways of adding give. A tape of numbers: worlds that are later ones but for the place of the tape, and what its next number is. The names that the tape's Schema gives: a letter and a number.
-/
import Derived.Test.YtpddkljedhghkaaDoorA12
import Derived.Test.YtpddkljedhghkaaDoorA07
import Derived.Laws.Externs
import Derived.Test.YtpddkljedhghkaaDoorChecked
import Derived.Test.YtpddkljedhghkaaDoorA06
import Derived.Deep.Slices
import Derived.Deep.Strs
import Derived.Deep.Fields
import Derived.ProofKit
import Derived.Laws.AppendOwn
import Derived.Lib.SmallJoins
import Derived.Lib.Hide
import Derived.LoopTactic
import Derived.BigQuiet
import Derived.Deep.QuietTactic
import Derived.Laws.IdiomStrings
set_option linter.unusedVariables false
namespace Go.Proofs.YtpddkljedhghkaaDoor
open Go Go.RowKit
theorem empty_size : (⟨#[]⟩ : ByteArray).size ≤ maxLen := by unfold maxLen; show (0 : Nat) ≤ _; omega
theorem arV3_size (op : Int) (a b : Vl) : (arV3 op a b).s.size ≤ maxLen := by
  show (arS op a.k a.n a.s b.k b.n b.s).size ≤ maxLen
  unfold arS
  by_cases h : arOk op a.k a.n a.s b.k b.n b.s = true
  · rw [if_pos h]
    by_cases h2 : op = 12
    · rw [if_pos h2]
      subst h2
      simp only [arOk, Bool.and_eq_true, if_true, textB, decide_eq_true_eq] at h
      have := h.2.2.1
      unfold maxLen
      omega
    · rw [if_neg h2]; exact empty_size
  · rw [if_neg h]; exact empty_size
theorem unV_size (op : Int) (a : Vl) : (unV op a).s.size ≤ maxLen := by
  unfold unV
  repeat' split
  all_goals first | exact arV3_size _ _ _ | exact empty_size
theorem biV_size (op : Int) (a b : Vl) (ha : a.s.size ≤ maxLen) (hb : b.s.size ≤ maxLen) : (biV op a b).s.size ≤ maxLen := by
  unfold biV
  repeat' split
  all_goals first | exact ha | exact hb | exact arV3_size _ _ _ | exact empty_size
theorem inV_size (v : Vl) : ∀ (l : List Vl) (acc : Vl), acc.s.size ≤ maxLen → (inV v l acc).s.size ≤ maxLen
  | [], acc, h => by rw [inV]; exact h
  | x :: r, acc, h => by rw [inV]; exact inV_size v r _ empty_size
theorem getD_size {l : List Vl} (h : ∀ v ∈ l, v.s.size ≤ maxLen) (i : Nat) : (l.getD i Vl.z).s.size ≤ maxLen := by
  by_cases hi : i < l.length
  · have : l.getD i Vl.z ∈ l := by simp [List.getD, hi]
    exact h _ this
  · have : l.getD i Vl.z = Vl.z := by simp [List.getD, Nat.le_of_not_lt hi]
    rw [this]; exact empty_size
theorem opV_size (op num : Int) (text : ByteArray) (col : Int) (row vs : List Vl) (ht : text.size ≤ maxLen) (hr : ∀ v ∈ row, v.s.size ≤ maxLen) (hv : ∀ v ∈ vs, v.s.size ≤ maxLen) : (opV op num text col row vs).s.size ≤ maxLen := by
  unfold opV colV litV
  repeat' split
  all_goals first | exact empty_size | exact ht | exact getD_size hr _ | exact getD_size hv _ | exact inV_size _ _ _ empty_size | exact unV_size _ _ | exact biV_size _ _ _ (getD_size hv _) (getD_size hv _)
theorem evalE_size (row : List Vl) (hr : ∀ v ∈ row, v.s.size ≤ maxLen) : ∀ (e : Ex) (w : World) (ok : Nat → Prop) (a : Option Addr) (len cap : Nat), Kids w ok a len cap e.kids → e.fine → (evalE e row).s.size ≤ maxLen := by
  refine Ex.ind fun e ih => ?_
  intro w ok a len cap hk hf
  rw [evalE_eq]
  refine opV_size _ _ _ _ _ _ hf.2.2.2.1 hr fun v hv => ?_
  obtain ⟨k, hk1, rfl⟩ := List.mem_map.1 hv
  obtain ⟨i, hi, rfl⟩ := List.mem_iff_getElem.1 hk1
  obtain ⟨a', len', cap', _, hf', hk'⟩ := hk.at_ (i := i) (by rw [← hk.len_eq]; exact hi)
  have he : e.kids.getD i Ex.z = e.kids[i] := by simp [List.getD, hi]
  rw [he] at hf' hk'
  exact ih _ hk1 w ok a' len' cap' hk' hf'
/-- The program's Eval. -/
theorem Eval_calls : ∀ e, EvalOf e := by
  refine Ex.ind fun e ih => ?_
  intro a len cap ok ra rlen rcap row w hk hf hr ht
  have hlen := hk.len_eq
  have hle := hk.le
  have hmax := hk.max
  have hmax' := hmax
  unfold maxLen at hmax'
  have hEv := evalE_eq e row
  by_cases ho : e.op < 1 ∨ 29 ≤ e.op
  · have hz : evalE e row = Vl.z := by
      rw [hEv]; unfold opV
      rcases ho with h | h
      · rw [if_pos h]
      · rw [if_neg (by omega), if_pos h]
    rw [hz]
    exact eval_unknown e a len cap ok ra rlen rcap row w (Lib.hid (fun W hW => find_no e.op W ho))
  · obtain ⟨n, hn⟩ : ∃ n : Nat, e.op = (n : Int) := ⟨e.op.toNat, by omega⟩
    have h1 : 1 ≤ n := by omega
    have h2 : n < 29 := by omega
    have CF : Hid (∀ W, Below w.heap.size w W → Calls Tryd.prog 33 #[.int .i64 e.op] W fun r w' => r = .returned (.tuple #[.agg #[.string ⟨(oRow n).word.toArray⟩, .int .i64 (oRow n).has, .int .i64 (oRow n).first, .int .i64 (oRow n).others, .int .i64 (oRow n).gives], .bool true]) ∧ Cls W w') := Lib.hid (fun W hW => by rw [hn]; exact find_yes n W h1 h2 (ht.later hW))
    have CT0 : ∀ W, Below w.heap.size w W → Calls Tryd.prog 34 #[.agg #[.string ⟨(oRow n).word.toArray⟩, .int .i64 (oRow n).has, .int .i64 (oRow n).first, .int .i64 (oRow n).others, .int .i64 (oRow n).gives], .int .i64 (len : Nat)] W fun r w' => r = .returned (.bool (takesO n len)) ∧ Cls W w' := fun W hW => by
      have := takes_calls (oRow n) len W (has_ok n h1 h2)
      rw [takes_eq n h1 h2] at this
      exact this
    have hOne := one_eq n h1 h2
    have hsz : ∀ i, i < len → (evalE (e.kids.getD i Ex.z) row).s.size ≤ maxLen := fun i hi => by
      obtain ⟨a', len', cap', _, hf', hk'⟩ := hk.at_ hi
      exact evalE_size row hr.2.2.2.1 _ w ok a' len' cap' hk' hf'
    have hml : (e.kids.map (evalE · row)).length = len := by rw [List.length_map, hlen]
    cases htk : takesO n len with
    | false =>
      rw [htk] at CT0
      have hz : evalE e row = Vl.z := by
        rw [hEv]; unfold opV
        rw [if_neg (by omega), if_neg (by omega), if_pos (by rw [hml, hn]; exact htk)]
      rw [hz]
      exact eval_arity e a len cap ok ra rlen rcap row w (oRow n) CF (Lib.hid CT0)
    | true =>
      rw [htk] at CT0
      have CT := Lib.hid CT0
      clear CT0
      have hz : evalE e row = (if e.op = 5 then colV e.col row else if e.op ≤ 4 then litV e.op e.num e.text
          else if e.op = 26 then (if trV ((e.kids.map (evalE · row)).getD 0 Vl.z) = 1 then (e.kids.map (evalE · row)).getD 1 Vl.z else (e.kids.map (evalE · row)).getD 2 Vl.z)
          else if e.op = 28 then inV ((e.kids.map (evalE · row)).getD 0 Vl.z) ((e.kids.map (evalE · row)).drop 1) (tvV 0)
          else if oneB e.op = true then unV e.op ((e.kids.map (evalE · row)).getD 0 Vl.z) else biV e.op ((e.kids.map (evalE · row)).getD 0 Vl.z) ((e.kids.map (evalE · row)).getD 1 Vl.z)) := by
        rw [hEv]; unfold opV
        rw [if_neg (by omega), if_neg (by omega), if_neg (by rw [hml, hn, htk]; exact Bool.noConfusion)]
      have hgd : ∀ i, i < len → (e.kids.map (evalE · row)).getD i Vl.z = evalE (e.kids.getD i Ex.z) row := fun i hi => by
        have : i < e.kids.length := by omega
        simp [List.getD, this]
      clear hEv
      by_cases h5 : e.op = 5
      · have b5 : (e.op == 5) = true := by rw [h5]; rfl
        rw [hz, if_pos h5]
        exact eval_column e a len cap ok ra rlen rcap row w _ (oRow n) CF CT b5 (Lib.hid (fun W hW => column_calls e.col ra rlen rcap row W (hr.later hW)))
      have b5 : (e.op == 5) = false := by simpa using h5
      rw [hz, if_neg h5]
      clear hz
      by_cases h4 : e.op ≤ 4
      · rw [if_pos h4]
        have CL : Hid (∀ W, Below w.heap.size w W → Calls Tryd.prog 36 #[.agg #[.int .i64 e.op, .int .i64 e.ty, .int .i64 e.num, .string e.text, .int .i64 e.col, .slice a len cap]] W fun r w' => r = .returned (.agg #[.int .i64 (litV e.op e.num e.text).k, .int .i64 (litV e.op e.num e.text).n, .string (litV e.op e.num e.text).s]) ∧ Cls W w') := Lib.hid (fun W hW => literal_calls e a len cap W (by omega))
        by_cases g1 : e.op = 1
        · exact eval_lit1 e a len cap ok ra rlen rcap row w _ (oRow n) CF CT b5 (by rw [g1]; rfl) CL
        have b1 : (e.op == 1) = false := by simpa using g1
        by_cases g2 : e.op = 2
        · exact eval_lit2 e a len cap ok ra rlen rcap row w _ (oRow n) CF CT b5 b1 (by rw [g2]; rfl) CL
        have b2 : (e.op == 2) = false := by simpa using g2
        by_cases g3 : e.op = 3
        · exact eval_lit3 e a len cap ok ra rlen rcap row w _ (oRow n) CF CT b5 b1 b2 (by rw [g3]; rfl) CL
        have b3 : (e.op == 3) = false := by simpa using g3
        have g4 : e.op = 4 := by omega
        exact eval_lit4 e a len cap ok ra rlen rcap row w _ (oRow n) CF CT b5 b1 b2 b3 (by rw [g4]; rfl) CL
      rw [if_neg h4]
      have b1 : (e.op == 1) = false := by simp; omega
      have b2 : (e.op == 2) = false := by simp; omega
      have b3 : (e.op == 3) = false := by simp; omega
      have b4 : (e.op == 4) = false := by simp; omega
      have hn5 : ¬ (n : Int) ≤ 5 := by omega
      by_cases h26 : e.op = 26
      · have hl3 : len = 3 := by
          have : n = 26 := by omega
          subst this
          simpa [takesO, oneB] using htk
        rw [if_pos h26, hgd 0 (by omega), hgd 1 (by omega), hgd 2 (by omega)]
        subst hl3
        exact eval_case e a 3 cap ok ra rlen rcap row w _ (oRow n) CF CT b5 b1 b2 b3 b4 (by rw [h26]; rfl) (Lib.hid (fun W hW => choose_calls e.kids ih a cap ok ra rlen rcap row W (hk.later hW) (hr.later hW) (ht.later hW)))
      rw [if_neg h26]
      have b26 : (e.op == 26) = false := by simpa using h26
      by_cases h28 : e.op = 28
      · have hl2 : 2 ≤ len := by
          have : n = 28 := by omega
          subst this
          simpa [takesO, oneB] using htk
        rw [if_pos h28, hgd 0 (by omega), ← List.map_drop]
        exact eval_in e a len cap ok ra rlen rcap row w _ (oRow n) CF CT b5 b1 b2 b3 b4 b26 (by rw [h28]; rfl) (Lib.hid (fun W hW => member_calls e.kids ih a len cap ok ra rlen rcap row W (hk.later hW) hl2 (hr.later hW) (ht.later hW)))
      rw [if_neg h28]
      have b28 : (e.op == 28) = false := by simpa using h28
      have hoe : oneB e.op = oneB n := by rw [hn]
      cases hb : oneB (n : Int) with
      | true =>
        have hl1 : len = 1 := by
          simp only [takesO, if_neg hn5, hb, if_true, decide_eq_true_eq] at htk
          exact htk
        rw [hoe, hb, if_pos rfl, hgd 0 (by omega)]
        have hs0 := hsz 0 (by omega)
        have hun : e.op = 11 ∨ e.op = 13 ∨ e.op = 21 ∨ e.op = 24 ∨ e.op = 25 := by
          simp only [oneB, Bool.or_eq_true, beq_iff_eq] at hb
          omega
        obtain ⟨a0, len0, cap0, ⟨b0, off0, E0, hb0, _, kc0⟩, f0, k0⟩ := hk.at_ (i := 0) (by omega)
        have C0 : Hid (∀ W, Below w.heap.size w W → Calls Tryd.prog 13 #[.agg #[.int .i64 (e.kids.getD 0 Ex.z).op, .int .i64 (e.kids.getD 0 Ex.z).ty, .int .i64 (e.kids.getD 0 Ex.z).num, .string (e.kids.getD 0 Ex.z).text, .int .i64 (e.kids.getD 0 Ex.z).col, .slice a0 len0 cap0], .slice ra rlen rcap] W fun r w' => r = .returned (.agg #[.int .i64 (evalE (e.kids.getD 0 Ex.z) row).k, .int .i64 (evalE (e.kids.getD 0 Ex.z) row).n, .string (evalE (e.kids.getD 0 Ex.z) row).s]) ∧ Cls W w') := Lib.hid (fun W hW => ih _ (getD_mem (by omega)) a0 len0 cap0 ok ra rlen rcap row W (k0.later hW) f0 (hr.later hW) (ht.later hW))
        subst E0
        simp only [Nat.zero_mul, Nat.add_zero] at kc0
        exact eval_unary w e b0 off0 hb0 len cap hle hmax' ra rlen rcap _ (oRow n) (by omega) (e.kids.getD 0 Ex.z) a0 len0 cap0 (evalE (e.kids.getD 0 Ex.z) row) kc0 C0 CF CT b5 b1 b2 b3 b4 b26 b28 (by rw [hOne]; exact hb) (Lib.hid (fun W hW => unary_calls e.op _ W hs0 hun))
      | false =>
        have hl2 : len = 2 := by
          simp only [takesO, if_neg hn5, hb, Bool.false_eq_true, if_false, if_neg (show ¬ (n : Int) = 26 by omega), if_neg (show ¬ (n : Int) = 28 by omega), decide_eq_true_eq] at htk
          exact htk
        rw [hoe, hb, if_neg Bool.false_ne_true, hgd 0 (by omega), hgd 1 (by omega)]
        have hs0 := hsz 0 (by omega)
        have hs1 := hsz 1 (by omega)
        have hbi : e.op = 27 ∨ e.op = 6 ∨ e.op = 7 ∨ e.op = 8 ∨ e.op = 9 ∨ e.op = 10 ∨ e.op = 12 ∨ e.op = 14 ∨ e.op = 15 ∨ e.op = 16 ∨ e.op = 17 ∨ e.op = 18 ∨ e.op = 19 ∨ e.op = 20 ∨ e.op = 22 ∨ e.op = 23 := by
          simp only [oneB, Bool.or_eq_false_iff, beq_eq_false_iff_ne, ne_eq] at hb
          omega
        obtain ⟨a0, len0, cap0, ⟨b0, off0, E0, hb0, _, kc0⟩, f0, k0⟩ := hk.at_ (i := 0) (by omega)
        have C0 : Hid (∀ W, Below w.heap.size w W → Calls Tryd.prog 13 #[.agg #[.int .i64 (e.kids.getD 0 Ex.z).op, .int .i64 (e.kids.getD 0 Ex.z).ty, .int .i64 (e.kids.getD 0 Ex.z).num, .string (e.kids.getD 0 Ex.z).text, .int .i64 (e.kids.getD 0 Ex.z).col, .slice a0 len0 cap0], .slice ra rlen rcap] W fun r w' => r = .returned (.agg #[.int .i64 (evalE (e.kids.getD 0 Ex.z) row).k, .int .i64 (evalE (e.kids.getD 0 Ex.z) row).n, .string (evalE (e.kids.getD 0 Ex.z) row).s]) ∧ Cls W w') := Lib.hid (fun W hW => ih _ (getD_mem (by omega)) a0 len0 cap0 ok ra rlen rcap row W (k0.later hW) f0 (hr.later hW) (ht.later hW))
        subst E0
        simp only [Nat.zero_mul, Nat.add_zero] at kc0
        obtain ⟨a1, len1, cap1, ⟨b1, off1, E1, hb1, _, kc1⟩, f1, k1⟩ := hk.at_ (i := 1) (by omega)
        have C1 : Hid (∀ W, Below w.heap.size w W → Calls Tryd.prog 13 #[.agg #[.int .i64 (e.kids.getD 1 Ex.z).op, .int .i64 (e.kids.getD 1 Ex.z).ty, .int .i64 (e.kids.getD 1 Ex.z).num, .string (e.kids.getD 1 Ex.z).text, .int .i64 (e.kids.getD 1 Ex.z).col, .slice a1 len1 cap1], .slice ra rlen rcap] W fun r w' => r = .returned (.agg #[.int .i64 (evalE (e.kids.getD 1 Ex.z) row).k, .int .i64 (evalE (e.kids.getD 1 Ex.z) row).n, .string (evalE (e.kids.getD 1 Ex.z) row).s]) ∧ Cls W w') := Lib.hid (fun W hW => ih _ (getD_mem (by omega)) a1 len1 cap1 ok ra rlen rcap row W (k1.later hW) f1 (hr.later hW) (ht.later hW))
        cases E1
        simp only [Nat.one_mul, Nat.add_assoc, Nat.reduceAdd] at kc1
        exact eval_binary w e b0 off0 hb0 len cap hle hmax' ra rlen rcap _ (oRow n) (by omega) (e.kids.getD 0 Ex.z) a0 len0 cap0 (evalE (e.kids.getD 0 Ex.z) row) kc0 C0 (e.kids.getD 1 Ex.z) a1 len1 cap1 (evalE (e.kids.getD 1 Ex.z) row) kc1 C1 CF CT b5 b1 b2 b3 b4 b26 b28 (by rw [hOne]; exact hb)
          (Lib.hid (fun W hW => by
            rcases hbi with h27 | hbi
            · rw [h27]; exact coalesce_calls _ _ W
            · exact binary_calls e.op _ _ W hs0 hs1 hbi))
end Go.Proofs.YtpddkljedhghkaaDoor
set_option linter.unusedVariables false
namespace Go.Proofs.YtpddkljedhghkaaDoor
open Go Go.RowKit
def nOk (v : Vl) : Prop := -9223372036854775808 ≤ v.n ∧ v.n < 9223372036854775808
theorem nOk_z : nOk Vl.z := by unfold nOk Vl.z; simp
theorem nOk_tv (t : Int) : nOk (tvV t) := by unfold nOk tvV tvN; simp only; split <;> omega
theorem nOk_b (b : Bool) : nOk ⟨2, b2i b, ⟨#[]⟩⟩ := by unfold nOk b2i; simp only; split <;> omega
theorem arV3_n (op : Int) (a b : Vl) : nOk (arV3 op a b) := by
  show -9223372036854775808 ≤ arN op a.k a.n a.s b.k b.n b.s ∧ arN op a.k a.n a.s b.k b.n b.s < 9223372036854775808
  unfold arN
  by_cases h : arOk op a.k a.n a.s b.k b.n b.s = true
  · rw [if_pos h]
    by_cases h2 : op = 12
    · rw [if_pos h2]; omega
    · rw [if_neg h2]
      unfold arOk at h
      rw [if_neg h2] at h
      simp only [Bool.and_eq_true, beq_iff_eq] at h
      obtain ⟨⟨v1, v2⟩, ⟨k1, k2⟩, h3⟩ := h
      have b1 : -1000000000000 ≤ a.n ∧ a.n ≤ 1000000000000 := by
        unfold vB at v1; simp [k1] at v1; omega
      have b2 : -1000000000000 ≤ b.n ∧ b.n ≤ 1000000000000 := by
        unfold vB at v2; simp [k2] at v2; omega
      unfold numOk at h3
      unfold numV
      by_cases e6 : op = 6
      · rw [if_pos e6]; omega
      · rw [if_neg e6] at h3 ⊢
        by_cases e7 : op = 7
        · rw [if_pos e7]; omega
        · rw [if_neg e7] at h3 ⊢
          by_cases e8 : op = 8
          · rw [if_pos e8] at h3 ⊢
            have := mulOk_bd h3
            omega
          · rw [if_neg e8] at h3 ⊢
            by_cases e9 : op = 9
            · rw [if_pos e9]
              have := Int.natAbs_tdiv_le_natAbs a.n b.n
              omega
            · rw [if_neg e9]
              have h5 := Int.natAbs_tmod a.n b.n
              have h6 := Nat.mod_le a.n.natAbs b.n.natAbs
              omega
  · rw [if_neg h]; omega
theorem unV_n (op : Int) (a : Vl) (hs : a.s.size ≤ maxLen) : nOk (unV op a) := by
  unfold unV
  repeat' split
  all_goals first | exact arV3_n _ _ _ | exact nOk_z | exact nOk_b _ | exact nOk_tv _ | (unfold nOk; unfold maxLen at hs; simp only; omega)
theorem biV_n (op : Int) (a b : Vl) (ha : nOk a) (hb : nOk b) : nOk (biV op a b) := by
  unfold biV
  repeat' split
  all_goals first | exact ha | exact hb | exact arV3_n _ _ _ | exact nOk_tv _ | exact nOk_b _
theorem inV_n (v : Vl) : ∀ (l : List Vl) (acc : Vl), nOk acc → nOk (inV v l acc)
  | [], acc, h => by rw [inV]; exact h
  | x :: r, acc, h => by rw [inV]; exact inV_n v r _ (nOk_tv _)
theorem getD_n {l : List Vl} (h : ∀ v ∈ l, nOk v) (i : Nat) : nOk (l.getD i Vl.z) := by
  by_cases hi : i < l.length
  · have : l.getD i Vl.z ∈ l := by simp [List.getD, hi]
    exact h _ this
  · have : l.getD i Vl.z = Vl.z := by simp [List.getD, Nat.le_of_not_lt hi]
    rw [this]; exact nOk_z
theorem wf_n {n : Int} (h : (Lit.int .i64 n).wf = true) : -9223372036854775808 ≤ n ∧ n < 9223372036854775808 := by
  simp [Lit.wf, IntKind.min, IntKind.max, IntKind.bits, IntKind.signed] at h
  omega
theorem opV_n (op num : Int) (text : ByteArray) (col : Int) (row vs : List Vl) (hn : (Lit.int .i64 num).wf = true) (hr : ∀ v ∈ row, nOk v) (hv : ∀ v ∈ vs, nOk v) (hs : ∀ v ∈ vs, v.s.size ≤ maxLen) : nOk (opV op num text col row vs) := by
  have h1 : nOk ⟨1, num, ⟨#[]⟩⟩ := wf_n hn
  have h2 : nOk ⟨2, num, ⟨#[]⟩⟩ := wf_n hn
  have h3 : nOk ⟨3, 0, text⟩ := by unfold nOk; simp only; omega
  unfold opV colV litV
  repeat' split
  all_goals first | exact nOk_z | exact h1 | exact h2 | exact h3 | exact getD_n hr _ | exact getD_n hv _ | exact inV_n _ _ _ (nOk_tv _) | exact unV_n _ _ (getD_size hs _) | exact biV_n _ _ _ (getD_n hv _) (getD_n hv _)
theorem evalE_n (row : List Vl) (hr : ∀ v ∈ row, nOk v) (hrs : ∀ v ∈ row, v.s.size ≤ maxLen) : ∀ (e : Ex) (w : World) (ok : Nat → Prop) (a : Option Addr) (len cap : Nat), Kids w ok a len cap e.kids → e.fine → nOk (evalE e row) := by
  refine Ex.ind fun e ih => ?_
  intro w ok a len cap hk hf
  rw [evalE_eq]
  refine opV_n _ _ _ _ _ _ hf.2.2.1 hr (fun v hv => ?_) fun v hv => ?_
  all_goals
    obtain ⟨k, hk1, rfl⟩ := List.mem_map.1 hv
    obtain ⟨i, hi, rfl⟩ := List.mem_iff_getElem.1 hk1
    obtain ⟨a', len', cap', _, hf', hk'⟩ := hk.at_ (i := i) (by rw [← hk.len_eq]; exact hi)
    have he : e.kids.getD i Ex.z = e.kids[i] := by simp [List.getD, hi]
    rw [he] at hf' hk'
  · exact ih _ hk1 w ok a' len' cap' hk' hf'
  · exact evalE_size row hrs _ w ok a' len' cap' hk' hf'
end Go.Proofs.YtpddkljedhghkaaDoor
set_option linter.unusedVariables false
namespace Go.Proofs.YtpddkljedhghkaaDoor.BG
open Go Go.RowKit
def intP (v : Vl) : Int := if v.k = 1 then v.n else 0
def sumZ : List Vl → Int
  | [] => 0
  | v :: r => intP v + sumZ r
def anyI (l : List Vl) : Bool := l.any fun v => v.k == 1
theorem sumZ_append (l m : List Vl) : sumZ (l ++ m) = sumZ l + sumZ m := by
  induction l with
  | nil => simp [sumZ]
  | cons v l ih => simp only [List.cons_append, sumZ, ih]; omega
theorem anyI_append (l m : List Vl) : anyI (l ++ m) = (anyI l || anyI m) := by simp [anyI]
theorem take_next {l : List Vl} {j : Nat} (h : j < l.length) : l.take (j + 1) = l.take j ++ [l.getD j Vl.z] := by
  rw [List.take_succ_eq_append_getElem h]
  simp [List.getD, h]
theorem sumZ_next {l : List Vl} {j : Nat} (h : j < l.length) : sumZ (l.take (j + 1)) = sumZ (l.take j) + intP (l.getD j Vl.z) := by
  rw [take_next h, sumZ_append]; simp [sumZ]
theorem anyI_next {l : List Vl} {j : Nat} (h : j < l.length) : anyI (l.take (j + 1)) = (anyI (l.take j) || (l.getD j Vl.z).k == 1) := by
  rw [take_next h, anyI_append]; simp [anyI]
theorem intP_bd {v : Vl} (h : nOk v) : -9223372036854775808 ≤ intP v ∧ intP v < 9223372036854775808 := by
  unfold intP
  have := h.1
  have := h.2
  split <;> omega
theorem sumZ_bd : ∀ {l : List Vl}, (∀ v ∈ l, nOk v) → -9223372036854775808 * (l.length : Int) ≤ sumZ l ∧ sumZ l ≤ 9223372036854775808 * (l.length : Int)
  | [], _ => by simp [sumZ]
  | v :: r, h => by
    have h1 := intP_bd (h v (by simp))
    have h2 := sumZ_bd (l := r) fun x hx => h x (by simp [hx])
    simp only [sumZ, List.length_cons]
    omega
/-- What the sum is as a value. -/
def sumVl (l : List Vl) : Vl := if anyI l = true then (if -1000000000000 ≤ sumZ l ∧ sumZ l ≤ 1000000000000 then ⟨1, sumZ l, ⟨#[]⟩⟩ else Vl.z) else Vl.z
theorem sumVl_is (l : List Vl) : (anyI l = false → sumVl l = Vl.z) ∧ (anyI l = true → (-1000000000000 ≤ sumZ l → sumZ l ≤ 1000000000000 → sumVl l = ⟨1, sumZ l, ⟨#[]⟩⟩) ∧ (¬ (-1000000000000 ≤ sumZ l ∧ sumZ l ≤ 1000000000000) → sumVl l = Vl.z)) := by
  unfold sumVl
  refine ⟨fun h => by rw [h]; rfl, fun h => ⟨fun h1 h2 => by rw [if_pos h, if_pos ⟨h1, h2⟩], fun h1 => by rw [if_pos h, if_neg h1]⟩⟩
/-- The two halves after one more number has been added with its carry. -/
theorem add128 {hi lo a b hi' lo' S n q : Int} (h0 : 0 ≤ lo) (h1 : lo < 18446744073709551616) (h2 : 0 ≤ hi) (h3 : hi < 18446744073709551616) (h : hi * 18446744073709551616 + lo = S + q * 340282366920938463463374607431768211456)
    (ha : a = n % 18446744073709551616) (hb : b = (if n < 0 then 18446744073709551615 else 0)) (hn1 : -9223372036854775808 ≤ n) (hn2 : n < 9223372036854775808)
    (hl : lo' = (lo + a) % 18446744073709551616) (hh : hi' = (hi + b + (lo + a) / 18446744073709551616) % 18446744073709551616) :
    0 ≤ lo' ∧ lo' < 18446744073709551616 ∧ 0 ≤ hi' ∧ hi' < 18446744073709551616 ∧ ∃ q', hi' * 18446744073709551616 + lo' = S + n + q' * 340282366920938463463374607431768211456 := by
  refine ⟨by omega, by omega, by omega, by omega, ?_⟩
  by_cases hneg : n < 0
  · rw [if_pos hneg] at hb
    have e1 : a = n + 18446744073709551616 := by omega
    refine ⟨q + 1 - (hi + b + (lo + a) / 18446744073709551616) / 18446744073709551616, ?_⟩
    omega
  · rw [if_neg hneg] at hb
    have e1 : a = n := by omega
    refine ⟨q - (hi + b + (lo + a) / 18446744073709551616) / 18446744073709551616, ?_⟩
    omega
/-- What the halves say of the sum at the end. -/
theorem end128 {hi lo S q : Int} (h0 : 0 ≤ lo) (h1 : lo < 18446744073709551616) (h2 : 0 ≤ hi) (h3 : hi < 18446744073709551616) (h : hi * 18446744073709551616 + lo = S + q * 340282366920938463463374607431768211456)
    (hS1 : -85070591730234615865843651857942052864 ≤ S) (hS2 : S ≤ 85070591730234615865843651857942052864) :
    ((if hi < 9223372036854775808 then hi else hi - 18446744073709551616) = (if lo < 9223372036854775808 then 0 else -1) → (if lo < 9223372036854775808 then lo else lo - 18446744073709551616) = S) ∧
    ((if hi < 9223372036854775808 then hi else hi - 18446744073709551616) ≠ (if lo < 9223372036854775808 then 0 else -1) → ¬ (-1000000000000 ≤ S ∧ S ≤ 1000000000000)) := by
  split <;> split <;> constructor <;> intro h4 <;> omega
end Go.Proofs.YtpddkljedhghkaaDoor.BG
set_option linter.unusedVariables false
namespace Go.Proofs.YtpddkljedhghkaaDoor
open Go Go.RowKit Go.Deep

/-- A later world: all that was there is as it was, but for block T. -/
structure Tp (T : Nat) (w w' : World) : Prop where
  os : w'.os = w.os
  tape : w'.tape = w.tape
  output : w'.output = w.output
  size : w.heap.size ≤ w'.heap.size
  block : ∀ k, k < w.heap.size → k ≠ T → w'.heap[k]? = w.heap[k]?
namespace Tp
theorem refl (T : Nat) (w : World) : Tp T w w := ⟨rfl, rfl, rfl, Nat.le_refl _, fun _ _ _ => rfl⟩
theorem trans {T : Nat} {a b c : World} (h : Tp T a b) (k : Tp T b c) : Tp T a c :=
  ⟨k.os.trans h.os, k.tape.trans h.tape, k.output.trans h.output, Nat.le_trans h.size k.size, fun i hi hT => (k.block i (Nat.lt_of_lt_of_le hi h.size) hT).trans (h.block i hi hT)⟩
theorem ofBelow {T : Nat} {w w' : World} (h : Below w.heap.size w w') : Tp T w w' := ⟨h.os, h.tape, h.output, h.size, fun k hk _ => h.block k hk⟩
theorem ext {T : Nat} {w0 w : World} (h : Tp T w0 w) (x : Ext w) : Tp T w0 x.val := h.trans (ofBelow x.below)
theorem drew {T : Nat} {w0 w : World} (h : Tp T w0 w) : Tp T w0 w.drew := h.trans (ofBelow (Below.refl _ _).drew)
theorem alloc {T : Nat} {w0 w : World} (h : Tp T w0 w) (o : Obj) : Tp T w0 (w.alloc o) := h.trans (ofBelow ((Below.refl _ _).alloc (Nat.le_refl _) o))
theorem setCell {T : Nat} {w0 w : World} (h : Tp T w0 w) {p : Addr} (hp : w0.heap.size ≤ p.block ∨ p.block = T) (u : Value) : Tp T w0 (w.setCell p u) :=
  ⟨h.os, h.tape, h.output, by simpa [World.setCell] using h.size, fun k hk hT => (Below.heap_setCell _ _ _ _ (by rcases hp with hp | hp <;> omega)).trans (h.block k hk hT)⟩
theorem cell {T : Nat} {w w' : World} (h : Tp T w w') {b : Nat} (o : Nat) (hb : b < w.heap.size) (hT : b ≠ T) : w'.cell? ⟨b, o, none⟩ = w.cell? ⟨b, o, none⟩ := World.cell?_of_block (w := w) (h.block b hb hT)
theorem frozen {T : Nat} {w w' : World} (h : Tp T w w') {b : Nat} (o : Nat) (hb : b < w.heap.size) (hT : b ≠ T) : w'.frozen? ⟨b, o, none⟩ = w.frozen? ⟨b, o, none⟩ := World.frozen?_of_block (w := w) (h.block b hb hT)
end Tp

/-- Block T holds a tape that has been read at most m times; its numbers lie elsewhere. -/
def TapeAt (T m : Nat) (w : World) : Prop := ∃ (a : Option Addr) (len cap p : Nat), w.heap[T]? = some (.cells #[.slice a len cap, .int .i64 (p : Nat)] 25) ∧ p ≤ m ∧ len ≤ maxLen ∧
  (len = 0 ∨ ∃ b off, a = some ⟨b, off, none⟩ ∧ b < T ∧ ∀ i, i < len → ∃ n : Int, (Lit.int .i64 n).wf = true ∧ w.cell? ⟨b, off + i, none⟩ = some (.int .i64 n))
namespace TapeAt
theorem lt {T m : Nat} {w : World} (h : TapeAt T m w) : T < w.heap.size := by
  obtain ⟨a, len, cap, p, h1, _⟩ := h
  exact (Array.getElem?_eq_some_iff.1 h1).1
theorem mono {T m m' : Nat} {w : World} (h : TapeAt T m w) (hm : m ≤ m') : TapeAt T m' w := by
  obtain ⟨a, len, cap, p, h1, h2, h3⟩ := h
  exact ⟨a, len, cap, p, h1, by omega, h3⟩
/-- What lies up to the tape is as it was. -/
theorem upto {T m : Nat} {w w' : World} (h : TapeAt T m w) (hb : Below (T + 1) w w') : TapeAt T m w' := by
  obtain ⟨a, len, cap, p, h1, h2, h3, h4⟩ := h
  refine ⟨a, len, cap, p, (hb.block T (by omega)).trans h1, h2, h3, h4.imp id ?_⟩
  rintro ⟨b, off, ha, hlt, hc⟩
  refine ⟨b, off, ha, hlt, fun i hi => ?_⟩
  obtain ⟨n, hn, hq⟩ := hc i hi
  exact ⟨n, hn, by rw [hb.cell (p := ⟨b, _, none⟩) (show b < T + 1 by omega)]; exact hq⟩
theorem later {T m : Nat} {w w' : World} (h : TapeAt T m w) (hb : Below w.heap.size w w') : TapeAt T m w' := h.upto (hb.mono h.lt)
end TapeAt
theorem Tp.grown {T : Nat} {a w w' : World} {row : Option Nat} (h : Tp T a w) (hg : w.grownBy w' row) (hr : ∀ k, row = some k → a.heap.size ≤ k) : Tp T a w' :=
  ⟨hg.os.trans h.os, hg.tape.trans h.tape, hg.output.trans h.output, Nat.le_trans h.size hg.size, fun k hk hT => (hg.block k (Nat.lt_of_lt_of_le hk h.size) (fun e => by have := hr k e.symm; omega)).trans (h.block k hk hT)⟩
/-- A later world of w, but for the tape at T, which has been read at most m times. -/
structure Lat (T m : Nat) (w : World) where
  val : World
  tp : Tp T w val
  at_ : TapeAt T m val
namespace Lat
variable {T m : Nat} {w : World}
@[go_sem] theorem cell (x : Lat T m w) {b : Nat} (o : Nat) (h : b < w.heap.size) (hT : b ≠ T) : x.val.cell? ⟨b, o, none⟩ = w.cell? ⟨b, o, none⟩ := x.tp.cell o h hT
@[go_sem] theorem frozen (x : Lat T m w) {b : Nat} (o : Nat) (h : b < w.heap.size) (hT : b ≠ T) : x.val.frozen? ⟨b, o, none⟩ = w.frozen? ⟨b, o, none⟩ := x.tp.frozen o h hT
theorem size (x : Lat T m w) : w.heap.size ≤ x.val.heap.size := x.tp.size
theorem lts (x : Lat T m w) {b : Nat} (h : b < w.heap.size) : b < x.val.heap.size ∧ b < x.val.heap.size + 1 ∧ b < x.val.heap.size + 1 + 1 ∧ b < x.val.heap.size + 1 + 1 + 1 ∧ b < x.val.heap.size + 1 + 1 + 1 + 1 := by
  have := x.size
  refine ⟨?_, ?_, ?_, ?_, ?_⟩ <;> omega
theorem on {w0 : World} (x : Lat T m w) (h : Tp T w0 w) : Tp T w0 x.val := h.trans x.tp
end Lat
/-- What a call does that reads the tape. -/
def Tq (T m : Nat) (w w' : World) : Prop := ∃ x : Lat T m w, w' = x.val
theorem Tq.of {T m : Nat} {w w' : World} (h : Tp T w w') (h' : TapeAt T m w') : Tq T m w w' := ⟨⟨w', h, h'⟩, rfl⟩

end Go.Proofs.YtpddkljedhghkaaDoor
set_option linter.unusedVariables false
namespace Go.Proofs.YtpddkljedhghkaaDoor
open Go Go.RowKit Go.Deep
end Go.Proofs.YtpddkljedhghkaaDoor
