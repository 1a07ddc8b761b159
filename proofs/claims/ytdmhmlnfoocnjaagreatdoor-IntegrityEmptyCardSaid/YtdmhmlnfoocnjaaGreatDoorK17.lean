/-
  The program's Eval gives evalE.
-/
import Derived.Test.YtdmhmlnfoocnjaaGreatDoorK16
import Derived.Maps.AppendAt
import Derived.OwnWalk
import Derived.Laws.Entries
import Derived.BigQuiet
import Derived.Test.YtdmhmlnfoocnjaaGreatDoorK12
set_option linter.unusedVariables false
namespace Go.Proofs.YtdmhmlnfoocnjaaGreatDoor
open Go Go.RowKit
theorem empty_size : (⟨#[]⟩ : ByteArray).size ≤ maxLen := by unfold maxLen; show (0 : Nat) ≤ _; omega
theorem arV3_size (op : Int) (a b : Vl) : (arV3 op a b).s.size ≤ maxLen := by
  show (arS op a.k a.n a.s b.k b.n b.s).size ≤ maxLen
  unfold arS
  by_cases h : arOk op a.k a.n a.s b.k b.n b.s = true
  · rw [if_pos h]
    by_cases h2 : op = 12
    · rw [if_pos h2]
      subst h2
      simp only [arOk, Bool.and_eq_true, if_true, textB, decide_eq_true_eq] at h
      have := h.2.2.1
      unfold maxLen
      omega
    · rw [if_neg h2]; exact empty_size
  · rw [if_neg h]; exact empty_size
theorem unV_size (op : Int) (a : Vl) : (unV op a).s.size ≤ maxLen := by
  unfold unV
  repeat' split
  all_goals first | exact arV3_size _ _ _ | exact empty_size
theorem biV_size (op : Int) (a b : Vl) (ha : a.s.size ≤ maxLen) (hb : b.s.size ≤ maxLen) : (biV op a b).s.size ≤ maxLen := by
  unfold biV
  repeat' split
  all_goals first | exact ha | exact hb | exact arV3_size _ _ _ | exact empty_size
theorem inV_size (v : Vl) : ∀ (l : List Vl) (acc : Vl), acc.s.size ≤ maxLen → (inV v l acc).s.size ≤ maxLen
  | [], acc, h => by rw [inV]; exact h
  | x :: r, acc, h => by rw [inV]; exact inV_size v r _ empty_size
theorem getD_size {l : List Vl} (h : ∀ v ∈ l, v.s.size ≤ maxLen) (i : Nat) : (l.getD i Vl.z).s.size ≤ maxLen := by
  by_cases hi : i < l.length
  · have : l.getD i Vl.z ∈ l := by simp [List.getD, hi]
    exact h _ this
  · have : l.getD i Vl.z = Vl.z := by simp [List.getD, Nat.le_of_not_lt hi]
    rw [this]; exact empty_size
theorem opV_size (op num : Int) (text : ByteArray) (col : Int) (row vs : List Vl) (ht : text.size ≤ maxLen) (hr : ∀ v ∈ row, v.s.size ≤ maxLen) (hv : ∀ v ∈ vs, v.s.size ≤ maxLen) : (opV op num text col row vs).s.size ≤ maxLen := by
  unfold opV colV litV
  repeat' split
  all_goals first | exact empty_size | exact ht | exact getD_size hr _ | exact getD_size hv _ | exact inV_size _ _ _ empty_size | exact unV_size _ _ | exact biV_size _ _ _ (getD_size hv _) (getD_size hv _)
theorem evalE_size (row : List Vl) (hr : ∀ v ∈ row, v.s.size ≤ maxLen) : ∀ (e : Ex) (w : World) (ok : Nat → Prop) (a : Option Addr) (len cap : Nat), Kids w ok a len cap e.kids → e.fine → (evalE e row).s.size ≤ maxLen := by
  refine Ex.ind fun e ih => ?_
  intro w ok a len cap hk hf
  rw [evalE_eq]
  refine opV_size _ _ _ _ _ _ hf.2.2.2.1 hr fun v hv => ?_
  obtain ⟨k, hk1, rfl⟩ := List.mem_map.1 hv
  obtain ⟨i, hi, rfl⟩ := List.mem_iff_getElem.1 hk1
  obtain ⟨a', len', cap', _, hf', hk'⟩ := hk.at_ (i := i) (by rw [← hk.len_eq]; exact hi)
  have he : e.kids.getD i Ex.z = e.kids[i] := by simp [List.getD, hi]
  rw [he] at hf' hk'
  exact ih _ hk1 w ok a' len' cap' hk' hf'
theorem Eval_calls : ∀ e, EvalOf e := by
  refine Ex.ind fun e ih => ?_
  intro a len cap ok ra rlen rcap row w hk hf hr ht
  have hlen := hk.len_eq
  have hle := hk.le
  have hmax := hk.max
  have hmax' := hmax
  unfold maxLen at hmax'
  have hEv := evalE_eq e row
  by_cases ho : e.op < 1 ∨ 29 ≤ e.op
  · have hz : evalE e row = Vl.z := by
      rw [hEv]; unfold opV
      rcases ho with h | h
      · rw [if_pos h]
      · rw [if_neg (by omega), if_pos h]
    rw [hz]
    exact eval_unknown e a len cap ok ra rlen rcap row w (Lib.hid (fun W hW => find_no e.op W ho))
  · obtain ⟨n, hn⟩ : ∃ n : Nat, e.op = (n : Int) := ⟨e.op.toNat, by omega⟩
    have h1 : 1 ≤ n := by omega
    have h2 : n < 29 := by omega
    have CF : Hid (∀ W, Below w.heap.size w W → Calls Tryz.prog 117 #[.int .i64 e.op] W fun r w' => r = .returned (.tuple #[.agg #[.string ⟨(oRow n).word.toArray⟩, .int .i64 (oRow n).has, .int .i64 (oRow n).first, .int .i64 (oRow n).others, .int .i64 (oRow n).gives], .bool true]) ∧ Cls W w') := Lib.hid (fun W hW => by rw [hn]; exact find_yes n W h1 h2 (ht.later hW))
    have CT0 : ∀ W, Below w.heap.size w W → Calls Tryz.prog 118 #[.agg #[.string ⟨(oRow n).word.toArray⟩, .int .i64 (oRow n).has, .int .i64 (oRow n).first, .int .i64 (oRow n).others, .int .i64 (oRow n).gives], .int .i64 (len : Nat)] W fun r w' => r = .returned (.bool (takesO n len)) ∧ Cls W w' := fun W hW => by
      have := takes_calls (oRow n) len W (has_ok n h1 h2)
      rw [takes_eq n h1 h2] at this
      exact this
    have hOne := one_eq n h1 h2
    have hsz : ∀ i, i < len → (evalE (e.kids.getD i Ex.z) row).s.size ≤ maxLen := fun i hi => by
      obtain ⟨a', len', cap', _, hf', hk'⟩ := hk.at_ hi
      exact evalE_size row hr.2.2.2.1 _ w ok a' len' cap' hk' hf'
    have hml : (e.kids.map (evalE · row)).length = len := by rw [List.length_map, hlen]
    cases htk : takesO n len with
    | false =>
      rw [htk] at CT0
      have hz : evalE e row = Vl.z := by
        rw [hEv]; unfold opV
        rw [if_neg (by omega), if_neg (by omega), if_pos (by rw [hml, hn]; exact htk)]
      rw [hz]
      exact eval_arity e a len cap ok ra rlen rcap row w (oRow n) CF (Lib.hid CT0)
    | true =>
      rw [htk] at CT0
      have CT := Lib.hid CT0
      clear CT0
      have hz : evalE e row = (if e.op = 5 then colV e.col row else if e.op ≤ 4 then litV e.op e.num e.text
          else if e.op = 26 then (if trV ((e.kids.map (evalE · row)).getD 0 Vl.z) = 1 then (e.kids.map (evalE · row)).getD 1 Vl.z else (e.kids.map (evalE · row)).getD 2 Vl.z)
          else if e.op = 28 then inV ((e.kids.map (evalE · row)).getD 0 Vl.z) ((e.kids.map (evalE · row)).drop 1) (tvV 0)
          else if oneB e.op = true then unV e.op ((e.kids.map (evalE · row)).getD 0 Vl.z) else biV e.op ((e.kids.map (evalE · row)).getD 0 Vl.z) ((e.kids.map (evalE · row)).getD 1 Vl.z)) := by
        rw [hEv]; unfold opV
        rw [if_neg (by omega), if_neg (by omega), if_neg (by rw [hml, hn, htk]; exact Bool.noConfusion)]
      have hgd : ∀ i, i < len → (e.kids.map (evalE · row)).getD i Vl.z = evalE (e.kids.getD i Ex.z) row := fun i hi => by
        have : i < e.kids.length := by omega
        simp [List.getD, this]
      clear hEv
      by_cases h5 : e.op = 5
      · have b5 : (e.op == 5) = true := by rw [h5]; rfl
        rw [hz, if_pos h5]
        exact eval_column e a len cap ok ra rlen rcap row w _ (oRow n) CF CT b5 (Lib.hid (fun W hW => column_calls e.col ra rlen rcap row W (hr.later hW)))
      have b5 : (e.op == 5) = false := by simpa using h5
      rw [hz, if_neg h5]
      clear hz
      by_cases h4 : e.op ≤ 4
      · rw [if_pos h4]
        have CL : Hid (∀ W, Below w.heap.size w W → Calls Tryz.prog 120 #[.agg #[.int .i64 e.op, .int .i64 e.ty, .int .i64 e.num, .string e.text, .int .i64 e.col, .slice a len cap]] W fun r w' => r = .returned (.agg #[.int .i64 (litV e.op e.num e.text).k, .int .i64 (litV e.op e.num e.text).n, .string (litV e.op e.num e.text).s]) ∧ Cls W w') := Lib.hid (fun W hW => literal_calls e a len cap W (by omega))
        by_cases g1 : e.op = 1
        · exact eval_lit1 e a len cap ok ra rlen rcap row w _ (oRow n) CF CT b5 (by rw [g1]; rfl) CL
        have b1 : (e.op == 1) = false := by simpa using g1
        by_cases g2 : e.op = 2
        · exact eval_lit2 e a len cap ok ra rlen rcap row w _ (oRow n) CF CT b5 b1 (by rw [g2]; rfl) CL
        have b2 : (e.op == 2) = false := by simpa using g2
        by_cases g3 : e.op = 3
        · exact eval_lit3 e a len cap ok ra rlen rcap row w _ (oRow n) CF CT b5 b1 b2 (by rw [g3]; rfl) CL
        have b3 : (e.op == 3) = false := by simpa using g3
        have g4 : e.op = 4 := by omega
        exact eval_lit4 e a len cap ok ra rlen rcap row w _ (oRow n) CF CT b5 b1 b2 b3 (by rw [g4]; rfl) CL
      rw [if_neg h4]
      have b1 : (e.op == 1) = false := by simp; omega
      have b2 : (e.op == 2) = false := by simp; omega
      have b3 : (e.op == 3) = false := by simp; omega
      have b4 : (e.op == 4) = false := by simp; omega
      have hn5 : ¬ (n : Int) ≤ 5 := by omega
      by_cases h26 : e.op = 26
      · have hl3 : len = 3 := by
          have : n = 26 := by omega
          subst this
          simpa [takesO, oneB] using htk
        rw [if_pos h26, hgd 0 (by omega), hgd 1 (by omega), hgd 2 (by omega)]
        subst hl3
        exact eval_case e a 3 cap ok ra rlen rcap row w _ (oRow n) CF CT b5 b1 b2 b3 b4 (by rw [h26]; rfl) (Lib.hid (fun W hW => choose_calls e.kids ih a cap ok ra rlen rcap row W (hk.later hW) (hr.later hW) (ht.later hW)))
      rw [if_neg h26]
      have b26 : (e.op == 26) = false := by simpa using h26
      by_cases h28 : e.op = 28
      · have hl2 : 2 ≤ len := by
          have : n = 28 := by omega
          subst this
          simpa [takesO, oneB] using htk
        rw [if_pos h28, hgd 0 (by omega), ← List.map_drop]
        exact eval_in e a len cap ok ra rlen rcap row w _ (oRow n) CF CT b5 b1 b2 b3 b4 b26 (by rw [h28]; rfl) (Lib.hid (fun W hW => member_calls e.kids ih a len cap ok ra rlen rcap row W (hk.later hW) hl2 (hr.later hW) (ht.later hW)))
      rw [if_neg h28]
      have b28 : (e.op == 28) = false := by simpa using h28
      have hoe : oneB e.op = oneB n := by rw [hn]
      cases hb : oneB (n : Int) with
      | true =>
        have hl1 : len = 1 := by
          simp only [takesO, if_neg hn5, hb, if_true, decide_eq_true_eq] at htk
          exact htk
        rw [hoe, hb, if_pos rfl, hgd 0 (by omega)]
        have hs0 := hsz 0 (by omega)
        have hun : e.op = 11 ∨ e.op = 13 ∨ e.op = 21 ∨ e.op = 24 ∨ e.op = 25 := by
          simp only [oneB, Bool.or_eq_true, beq_iff_eq] at hb
          omega
        obtain ⟨a0, len0, cap0, ⟨b0, off0, E0, hb0, _, kc0⟩, f0, k0⟩ := hk.at_ (i := 0) (by omega)
        have C0 : Hid (∀ W, Below w.heap.size w W → Calls Tryz.prog 88 #[.agg #[.int .i64 (e.kids.getD 0 Ex.z).op, .int .i64 (e.kids.getD 0 Ex.z).ty, .int .i64 (e.kids.getD 0 Ex.z).num, .string (e.kids.getD 0 Ex.z).text, .int .i64 (e.kids.getD 0 Ex.z).col, .slice a0 len0 cap0], .slice ra rlen rcap] W fun r w' => r = .returned (.agg #[.int .i64 (evalE (e.kids.getD 0 Ex.z) row).k, .int .i64 (evalE (e.kids.getD 0 Ex.z) row).n, .string (evalE (e.kids.getD 0 Ex.z) row).s]) ∧ Cls W w') := Lib.hid (fun W hW => ih _ (getD_mem (by omega)) a0 len0 cap0 ok ra rlen rcap row W (k0.later hW) f0 (hr.later hW) (ht.later hW))
        subst E0
        simp only [Nat.zero_mul, Nat.add_zero] at kc0
        exact eval_unary w e b0 off0 hb0 len cap hle hmax' ra rlen rcap _ (oRow n) (by omega) (e.kids.getD 0 Ex.z) a0 len0 cap0 (evalE (e.kids.getD 0 Ex.z) row) kc0 C0 CF CT b5 b1 b2 b3 b4 b26 b28 (by rw [hOne]; exact hb) (Lib.hid (fun W hW => unary_calls e.op _ W hs0 hun))
      | false =>
        have hl2 : len = 2 := by
          simp only [takesO, if_neg hn5, hb, Bool.false_eq_true, if_false, if_neg (show ¬ (n : Int) = 26 by omega), if_neg (show ¬ (n : Int) = 28 by omega), decide_eq_true_eq] at htk
          exact htk
        rw [hoe, hb, if_neg Bool.false_ne_true, hgd 0 (by omega), hgd 1 (by omega)]
        have hs0 := hsz 0 (by omega)
        have hs1 := hsz 1 (by omega)
        have hbi : e.op = 27 ∨ e.op = 6 ∨ e.op = 7 ∨ e.op = 8 ∨ e.op = 9 ∨ e.op = 10 ∨ e.op = 12 ∨ e.op = 14 ∨ e.op = 15 ∨ e.op = 16 ∨ e.op = 17 ∨ e.op = 18 ∨ e.op = 19 ∨ e.op = 20 ∨ e.op = 22 ∨ e.op = 23 := by
          simp only [oneB, Bool.or_eq_false_iff, beq_eq_false_iff_ne, ne_eq] at hb
          omega
        obtain ⟨a0, len0, cap0, ⟨b0, off0, E0, hb0, _, kc0⟩, f0, k0⟩ := hk.at_ (i := 0) (by omega)
        have C0 : Hid (∀ W, Below w.heap.size w W → Calls Tryz.prog 88 #[.agg #[.int .i64 (e.kids.getD 0 Ex.z).op, .int .i64 (e.kids.getD 0 Ex.z).ty, .int .i64 (e.kids.getD 0 Ex.z).num, .string (e.kids.getD 0 Ex.z).text, .int .i64 (e.kids.getD 0 Ex.z).col, .slice a0 len0 cap0], .slice ra rlen rcap] W fun r w' => r = .returned (.agg #[.int .i64 (evalE (e.kids.getD 0 Ex.z) row).k, .int .i64 (evalE (e.kids.getD 0 Ex.z) row).n, .string (evalE (e.kids.getD 0 Ex.z) row).s]) ∧ Cls W w') := Lib.hid (fun W hW => ih _ (getD_mem (by omega)) a0 len0 cap0 ok ra rlen rcap row W (k0.later hW) f0 (hr.later hW) (ht.later hW))
        subst E0
        simp only [Nat.zero_mul, Nat.add_zero] at kc0
        obtain ⟨a1, len1, cap1, ⟨b1, off1, E1, hb1, _, kc1⟩, f1, k1⟩ := hk.at_ (i := 1) (by omega)
        have C1 : Hid (∀ W, Below w.heap.size w W → Calls Tryz.prog 88 #[.agg #[.int .i64 (e.kids.getD 1 Ex.z).op, .int .i64 (e.kids.getD 1 Ex.z).ty, .int .i64 (e.kids.getD 1 Ex.z).num, .string (e.kids.getD 1 Ex.z).text, .int .i64 (e.kids.getD 1 Ex.z).col, .slice a1 len1 cap1], .slice ra rlen rcap] W fun r w' => r = .returned (.agg #[.int .i64 (evalE (e.kids.getD 1 Ex.z) row).k, .int .i64 (evalE (e.kids.getD 1 Ex.z) row).n, .string (evalE (e.kids.getD 1 Ex.z) row).s]) ∧ Cls W w') := Lib.hid (fun W hW => ih _ (getD_mem (by omega)) a1 len1 cap1 ok ra rlen rcap row W (k1.later hW) f1 (hr.later hW) (ht.later hW))
        cases E1
        simp only [Nat.one_mul, Nat.add_assoc, Nat.reduceAdd] at kc1
        exact eval_binary w e b0 off0 hb0 len cap hle hmax' ra rlen rcap _ (oRow n) (by omega) (e.kids.getD 0 Ex.z) a0 len0 cap0 (evalE (e.kids.getD 0 Ex.z) row) kc0 C0 (e.kids.getD 1 Ex.z) a1 len1 cap1 (evalE (e.kids.getD 1 Ex.z) row) kc1 C1 CF CT b5 b1 b2 b3 b4 b26 b28 (by rw [hOne]; exact hb)
          (Lib.hid (fun W hW => by
            rcases hbi with h27 | hbi
            · rw [h27]; exact coalesce_calls _ _ W
            · exact binary_calls e.op _ _ W hs0 hs1 hbi))
end Go.Proofs.YtdmhmlnfoocnjaaGreatDoor
set_option linter.unusedVariables false
namespace Go.Proofs.YtdmhmlnfoocnjaaGreatDoor
open Go Go.RowKit
set_option maxHeartbeats 2000000 in
theorem rkids_calls (op : Int) (m : Nat) (w : World) (h1 : 1 ≤ op) (h2 : op < 29) :
    Calls Tryz.prog 90 #[.int .i64 op, .int .i64 (m : Nat)] w fun e w' => e = .returned (.bool (takesO op m)) ∧ Cls w w' := by
  have : op = 1 ∨ op = 2 ∨ op = 3 ∨ op = 4 ∨ op = 5 ∨ op = 6 ∨ op = 7 ∨ op = 8 ∨ op = 9 ∨ op = 10 ∨ op = 11 ∨ op = 12 ∨ op = 13 ∨ op = 14 ∨ op = 15 ∨ op = 16 ∨ op = 17 ∨ op = 18 ∨ op = 19 ∨ op = 20 ∨ op = 21 ∨ op = 22 ∨ op = 23 ∨ op = 24 ∨ op = 25 ∨ op = 26 ∨ op = 27 ∨ op = 28 := by omega
  rcases this with rfl | rfl | rfl | rfl | rfl | rfl | rfl | rfl | rfl | rfl | rfl | rfl | rfl | rfl | rfl | rfl | rfl | rfl | rfl | rfl | rfl | rfl | rfl | rfl | rfl | rfl | rfl | rfl
  all_goals
    go_enter Tryz.func90, Tryz.ntmps90
    go_wp2_with fail
    go_ret
    refine ⟨ret_bool ?_, Cls.of ?_⟩
    · simp [takesO, oneB]; first | done | omega | (rw [Bool.eq_iff_iff]; simp; done) | (rw [Bool.eq_iff_iff]; simp; omega)
    · repeat first | with_reducible exact Below.refl _ _ | with_reducible assumption | with_reducible refine Below.setCell ?_ (by first | omega | (simp; done) | (simp; omega)) _ | with_reducible refine Below.alloc ?_ (by first | omega | (simp; done) | (simp; omega)) _ | with_reducible refine Below.drew ?_ | with_reducible refine Ext.on _ ?_ (by first | omega | (simp; done) | (simp; omega))
def Vl.cells (v : Vl) : List Value := [.int .i64 v.k, .int .i64 v.n, .string v.s]
def flatV : List Vl → List Value
  | [] => []
  | r :: l => r.cells ++ flatV l
theorem flatV_append (l m : List Vl) : flatV (l ++ m) = flatV l ++ flatV m := by
  induction l with
  | nil => rfl
  | cons r l ih => simp [flatV, ih]
theorem flatV_at (l : List Vl) : ∀ i, i < l.length → (flatV l)[i * 3]? = some (.int .i64 (l.getD i Vl.z).k) ∧ (flatV l)[i * 3 + 1]? = some (.int .i64 (l.getD i Vl.z).n) ∧ (flatV l)[i * 3 + 2]? = some (.string (l.getD i Vl.z).s) := by
  induction l with
  | nil => intro i h; simp at h
  | cons r l ih =>
    intro i h
    cases i with
    | zero => simp [flatV, Vl.cells]
    | succ i =>
      have h2 := ih i (by simpa using h)
      rw [show (i + 1) * 3 = i * 3 + 3 by omega]
      simpa [flatV, Vl.cells, List.getD] using h2
theorem ownV_later {w w' : World} {base size n : Nat} {e : TypeId} {v : Value} {xs : List Value} (h : w.ownsRow base e size v n xs) (hb : Below w.heap.size w w') : w'.ownsRow base e size v n xs := by
  refine ⟨h.1, h.2.imp id ?_⟩
  rintro ⟨g, cap, cur, hv, hg, hh, rest⟩
  exact ⟨g, cap, cur, hv, hg, (hb.block g (Array.getElem?_eq_some_iff.1 hh).1).trans hh, rest⟩
end Go.Proofs.YtdmhmlnfoocnjaaGreatDoor
set_option linter.unusedVariables false
namespace Go.Proofs.YtdmhmlnfoocnjaaGreatDoor
open Go Go.RowKit Go.Deep
def flatI (l : List Int) : List Value := l.map fun n => .int .i64 n
theorem flatI_append (l m : List Int) : flatI (l ++ m) = flatI l ++ flatI m := by simp [flatI]
theorem int_one (n : Int) : ∀ u ∈ [Value.int .i64 n], u.oneCell' = true := by
  intro u h
  simp only [List.mem_cons, List.not_mem_nil, or_false] at h
  rcases h with rfl; rfl
theorem infoI : (Tryz.prog.info? 3).map (fun i => (i.zero, i.size, i.bytes)) = some (some (.int .i64 0), 1, 8) := by kernel_rfl
theorem cells_new' (w : World) (l : List Value) (t : TypeId) : ∀ j u, l[j]? = some u → (w.alloc (.cells l.toArray t)).cell? ((⟨w.heap.size, 0, none⟩ : Addr).add j) = some u := by
  intro j u h
  have hadd : (⟨w.heap.size, 0, none⟩ : Addr).add j = ⟨w.heap.size, j, none⟩ := by unfold Addr.add; split <;> simp_all
  rw [hadd, cell_of_row _ _ _ l.toArray t (0, 0) (heap_alloc_new w _)]
  simpa using h
def IntsAt (T : Nat) (w : World) (a : Option Addr) (len cap : Nat) (l : List Int) : Prop :=
  l.length = len ∧ len ≤ cap ∧ cap ≤ maxLen ∧ (len = 0 ∨ ∃ b off, a = some ⟨b, off, none⟩ ∧ T < b ∧ b < w.heap.size ∧ ∀ i, i < len → w.cell? ⟨b, off + i, none⟩ = some (.int .i64 (l.getD i 0)))
theorem IntsAt.tp {T : Nat} {w w' : World} {a : Option Addr} {len cap : Nat} {l : List Int} (h : IntsAt T w a len cap l) (hb : Tp T w w') : IntsAt T w' a len cap l := by
  refine ⟨h.1, h.2.1, h.2.2.1, h.2.2.2.imp id ?_⟩
  rintro ⟨b, off, ha, hT, hlt, hc⟩
  exact ⟨b, off, ha, hT, Nat.lt_of_lt_of_le hlt hb.size, fun i hi => by rw [hb.cell _ hlt (by omega)]; exact hc i hi⟩
theorem intsAt_of {T : Nat} {w : World} {base : Nat} {v : Value} {l : List Int} (h : w.ownsRow base 3 1 v l.length (flatI l)) (hT : T < base) : ∃ a cap, v = .slice a l.length cap ∧ IntsAt T w a l.length cap l := by
  rcases h.2 with ⟨rfl, h0⟩ | ⟨g, cap, cur, rfl, hb, hh, hn, hc, hr, ht⟩
  · have : l = [] := List.eq_nil_of_length_eq_zero h0
    subst this
    exact ⟨none, 0, rfl, rfl, Nat.le_refl _, Nat.zero_le _, .inl rfl⟩
  · refine ⟨some ⟨g, 0, none⟩, cap, rfl, rfl, hn, hc, .inr ⟨g, 0, rfl, by omega, (Array.getElem?_eq_some_iff.1 hh).1, fun i hi => ?_⟩⟩
    have hcell := World.ownsRow.cells h (g := g) rfl
    have hadd : ∀ j, (⟨g, 0, none⟩ : Addr).add j = ⟨g, 0 + j, none⟩ := fun j => by unfold Addr.add; split <;> simp_all
    have c0 := hcell i (.int .i64 (l.getD i 0)) (by simp [flatI, List.getD, hi])
    rw [hadd] at c0
    exact c0
end Go.Proofs.YtdmhmlnfoocnjaaGreatDoor
set_option linter.unusedVariables false
namespace Go.Proofs.YtdmhmlnfoocnjaaGreatDoor
open Go Go.RowKit
theorem infoVl : (Tryz.prog.info? 57).map (fun i => (i.zero, i.size, i.bytes)) = some (some (.agg #[.int .i64 0, .int .i64 0, .string ⟨#[]⟩]), 3, 32) := by kernel_rfl
theorem Vl.one (r : Vl) : ∀ u ∈ r.cells, u.oneCell' = true := by
  intro u h
  simp only [Vl.cells, List.mem_cons, List.not_mem_nil, or_false] at h
  rcases h with rfl | rfl | rfl <;> rfl
end Go.Proofs.YtdmhmlnfoocnjaaGreatDoor
