/-
  The columns of an expression, as the program gathers them: appendColumns, for all expressions.
-/
import Derived.Test.YtonnbmiallammaaColRef2
set_option linter.unusedVariables false
namespace Go.Proofs.Ytonnbmiallammaa
open Go Go.RowKit Go.Deep
theorem colsE_len : ∀ e : Ex, (colsE e).length ≤ cntE e := by
  refine Ex.ind fun e ih => ?_
  have key : ∀ (l : List Ex), (∀ k ∈ l, (colsE k).length ≤ cntE k) → (colsL l).length ≤ cntL l := by
    intro l
    induction l with
    | nil => intro _; simp [colsL]
    | cons k r ih2 =>
      intro hk
      have h1 := ih2 fun k' hk' => hk k' (List.mem_cons_of_mem _ hk')
      have h3 := hk k (List.mem_cons_self ..)
      rw [colsL, cntL, List.length_append]
      omega
  have h := key e.kids ih
  rw [colsE_eq, cntE_eq, List.length_append]
  split <;> simp <;> omega
theorem colsL_go {l : List Ex} {j : Nat} (h : j < l.length) : colsL (l.take (j + 1)) = colsL (l.take j) ++ colsE (l.getD j Ex.z) := by
  rw [takeE h, colsL_append]; simp [colsL]
theorem colsL_len (l : List Ex) : (colsL l).length ≤ cntL l := by
  induction l with
  | nil => simp [colsL]
  | cons k r ih => have := colsE_len k; rw [colsL, cntL, List.length_append]; omega
/-- From w to wr nothing has changed but the row that v owned; u owns that row or a new one. -/
structure Hold (w : World) (v : Value) (wr : World) (u : Value) : Prop where
  os : wr.os = w.os
  tape : wr.tape = w.tape
  output : wr.output = w.output
  size : w.heap.size ≤ wr.heap.size
  block : ∀ k, k < w.heap.size → v.ownBlock ≠ some k → wr.heap[k]? = w.heap[k]?
  own : ∀ k, u.ownBlock = some k → v.ownBlock = some k ∨ w.heap.size ≤ k
namespace Hold
theorem refl (w : World) (v : Value) : Hold w v w v := ⟨rfl, rfl, rfl, Nat.le_refl _, fun _ _ _ => rfl, fun _ h => .inl h⟩
theorem step {w wr w' : World} {v u u' : Value} (h : Hold w v wr u) (k : Hold wr u w' u') : Hold w v w' u' where
  os := k.os.trans h.os
  tape := k.tape.trans h.tape
  output := k.output.trans h.output
  size := Nat.le_trans h.size k.size
  block := fun i hi hv => (k.block i (Nat.lt_of_lt_of_le hi h.size) fun e => by rcases h.own i e with e' | e'; exact hv e'; omega).trans (h.block i hi hv)
  own := fun i e => by
    rcases k.own i e with e' | e'
    · exact h.own i e'
    · exact .inr (Nat.le_trans h.size e')
theorem ofBelow {w w' : World} {v : Value} (h : Below w.heap.size w w') : Hold w v w' v := ⟨h.os, h.tape, h.output, h.size, fun k hk _ => h.block k hk, fun _ e => .inl e⟩
theorem grown {w w' : World} {v v' : Value} (h : w.grownBy w' v.ownBlock) (ha : v'.ownBlock = v.ownBlock ∨ v'.ownBlock = some w.heap.size) : Hold w v w' v' where
  os := h.os
  tape := h.tape
  output := h.output
  size := h.size
  block := fun k hk hv => h.block k hk fun e => hv e.symm
  own := fun k e => by
    rcases ha with ha | ha
    · exact .inl (ha ▸ e)
    · rw [ha] at e; exact .inr (by have := Option.some.inj e; omega)
theorem below {w w' : World} {v v' : Value} {base n size : Nat} {e : TypeId} {xs : List Value} (h : Hold w v w' v') (ho : w.ownsRow base e size v n xs) (hb : base ≤ w.heap.size) : Below base w w' :=
  ⟨h.os, h.tape, h.output, h.size, fun k hk => h.block k (by omega) fun e' => by have := (ho.lt k e').1; omega⟩
end Hold
theorem cells_new2 (w : World) (o : Obj) (l : List Value) (t : TypeId) : ∀ j u, l[j]? = some u → ((w.alloc o).alloc (.cells l.toArray t)).cell? ((⟨w.heap.size + 1, 0, none⟩ : Addr).add j) = some u := by
  have h := cells_new' (w.alloc o) l t
  simpa using h
theorem free_of_row {w : World} {b : Nat} {cs : Array Value} {t : TypeId} (h : w.heap[b]? = some (.cells cs t (0, 0))) (i : Nat) : w.frozen? ⟨b, i, none⟩ = false := by simp [World.frozen?, h]
/-- The six cells of a block that is known whole. -/
theorem six {W : World} {b : Nat} {a0 a1 a2 a3 a4 a5 : Value} {t : TypeId} (h : W.heap[b]? = some (.cells #[a0, a1, a2, a3, a4, a5] t)) :
    b < W.heap.size ∧ W.cell? ⟨b, 0, none⟩ = some a0 ∧ W.cell? ⟨b, 4, none⟩ = some a4 ∧ W.cell? ⟨b, 5, none⟩ = some a5 := by
  refine ⟨(Array.getElem?_eq_some_iff.1 h).1, ?_, ?_, ?_⟩
  all_goals
    rw [cell_of_row _ _ _ _ _ (0, 0) h]
    rfl
theorem Kids.low_ {w w' : World} {base : Nat} {a : Option Addr} {len cap : Nat} {l : List Ex} (h : Kids w (fun b => b < base) a len cap l) (hb : Below base w w') : Kids w' (fun b => b < base) a len cap l := h.carry hb.size fun b _ hok => ⟨hok, hb.block b hok⟩
def AppOf (e : Ex) : Prop := ∀ (base : Nat) (v : Value) (xs : List Int) (a : Option Addr) (len cap : Nat) (w : World), Kids w (fun b => b < base) a len cap e.kids → w.ownsRow base 3 1 v xs.length (flatI xs) → base ≤ w.heap.size → xs.length + cntE e ≤ 2 ^ 22 →
    Calls Try.prog 22 #[v, .agg #[.int .i64 (e).op, .int .i64 (e).ty, .int .i64 (e).num, .string (e).text, .int .i64 (e).col, .slice a len cap]] w fun r w' => ∃ v', r = .returned v' ∧ w'.ownsRow base 3 1 v' (xs ++ colsE e).length (flatI (xs ++ colsE e)) ∧ Hold w v w' v'
set_option maxHeartbeats 4000000 in
set_option maxRecDepth 20000 in
theorem appendColumns_calls : ∀ e : Ex, AppOf e := by
  refine Ex.ind fun e ih => ?_
  intro base v xs a len cap w hk hown hbase hcnt
  obtain ⟨i0, hi, hz0, hz1, hz2⟩ := info_parts infoI
  have hle := hk.le
  have hmax := hk.max
  unfold maxLen at hmax
  have HL := Lib.hid hk.len_eq
  have HK := Lib.hid hk
  have HI := Lib.hid ih
  have HO := Lib.hid hown
  have hcl : xs.length + 1 + cntL e.kids ≤ 2 ^ 22 := by rw [cntE_eq] at hcnt; omega
  have HCL := Lib.hid hcl
  have HE := Lib.hid (colsE_eq e)
  have HVB : Hid (v.ownBlock ≠ some w.heap.size) := Lib.hid (fun h => by have := (hown.lt _ h).2; omega)
  clear hk ih hcnt hcl hown
  by_cases hop : e.op = 5
  · have bop : (e.op == 5) = true := by simpa using hop
    have HE2 : Hid (colsE e = [e.col] ++ colsL e.kids) := Lib.hid (by rw [HE.out, if_pos hop])
    clear hop HE
    go_enter Try.func22, Try.ntmps22
    go_wp2_with (at_builtin; refine wpList_append_own_at _ rfl _ _ 28 rfl base 3 i0 (.int .i64 0) 1 8 Try.underlying28 hi hz0 hz1 hz2 rfl (by decide) v xs.length (flatI xs) rfl (own_later' HO.out (by repeat first | with_reducible exact Below.refl _ _ | with_reducible refine Below.setCell ?_ (by first | omega | (simp; done) | (simp; omega)) _ | with_reducible refine Below.alloc ?_ (by first | omega | (simp; done) | (simp; omega)) _ | with_reducible refine Below.drew ?_ | with_reducible refine Ext.on _ ?_ (by first | omega | (simp; done) | (simp; omega)))) ⟨w.heap.size + 1, 0, none⟩ 1 1 [.int .i64 e.col] rfl rfl (cells_new2 _ _ _ _) (flatI_one [e.col]) (by have := HCL.out; unfold maxLen; omega) (by have := HCL.out; omega) (by simp; omega) ?_; intro v1 w1 hown1 hg1 _ hat1; have HHS : Hid (Hold w v w1 v1) := Lib.hid ((Hold.ofBelow (by repeat first | with_reducible exact Below.refl _ _ | with_reducible refine Below.setCell ?_ (by first | omega | (simp; done) | (simp; omega)) _ | with_reducible refine Below.alloc ?_ (by first | omega | (simp; done) | (simp; omega)) _ | with_reducible refine Below.drew ?_ | with_reducible refine Ext.on _ ?_ (by first | omega | (simp; done) | (simp; omega)))).step (Hold.grown hg1 hat1)); have HOS : Hid (w1.ownsRow base 3 1 v1 (xs ++ [e.col]).length (flatI (xs ++ [e.col]))) := Lib.hid (by rw [flatI_append, List.length_append]; exact hown1); have HBX : Hid (w1.heap[w.heap.size]? = some (.cells #[.int .i64 e.op, .int .i64 e.ty, .int .i64 e.num, .string e.text, .int .i64 e.col, .slice a len cap] 24)) := Lib.hid ((hg1.block w.heap.size (by simp; omega) (fun e' => HVB.out e'.symm)).trans ((Below.heap_alloc _ _ _ (by simp)).trans (heap_alloc_new w _))); obtain ⟨x0, c0, c4, c5⟩ := six HBX.out; clear hown1 hg1 hat1)
    go_loopw [0, 18] (fun u i wr => ∃ (j : Nat) (x : Value), j ≤ len ∧ i = .int .i64 j ∧ x = u ∧ wr.ownsRow base 3 1 u ((xs ++ [e.col]) ++ colsL (e.kids.take j)).length (flatI ((xs ++ [e.col]) ++ colsL (e.kids.take j))) ∧ Hold w v wr u) (fun _ i _ => len - (intOf i).toNat)
    case atStart => exact ⟨0, _, Nat.zero_le _, rfl, rfl, by rw [List.take_zero, colsL, List.append_nil]; exact HOS.out, HHS.out⟩
    case round =>
      obtain ⟨j, u, hj, rfl, hu, hou, hhu⟩ := hrel
      subst hu
      have HU := Lib.hid hou
      have HH := Lib.hid hhu
      have HBW := Lib.hid (hhu.below HO.out hbase)
      have hws := hhu.size
      clear hou hhu
      by_cases hlt : j < len
      · obtain ⟨a1, len1, cap1, ⟨b, off, rfl, hb, hok, q0, q1, q2, q3, q4, q5⟩, hfine, hk1⟩ := HK.out.at_ hlt
        have r0 := (HBW.out.cell (p := ⟨b, off + j * 6, none⟩) hok).trans q0
        have r1 := (HBW.out.cell (p := ⟨b, off + j * 6 + 1, none⟩) hok).trans q1
        have r2 := (HBW.out.cell (p := ⟨b, off + j * 6 + 2, none⟩) hok).trans q2
        have r3 := (HBW.out.cell (p := ⟨b, off + j * 6 + 3, none⟩) hok).trans q3
        have r4 := (HBW.out.cell (p := ⟨b, off + j * 6 + 4, none⟩) hok).trans q4
        have r5 := (HBW.out.cell (p := ⟨b, off + j * 6 + 5, none⟩) hok).trans q5
        have hmem := getD_mem (l := e.kids) (i := j) (by rw [HL.out]; exact hlt)
        have HG := Lib.hid (colsL_go (l := e.kids) (j := j) (by rw [HL.out]; exact hlt))
        have HC : Hid (((xs ++ [e.col]) ++ colsL (e.kids.take j)).length + cntE (e.kids.getD j Ex.z) ≤ 2 ^ 22) := Lib.hid (by
          have h1 := colsL_len (e.kids.take j)
          have h2 : cntL (e.kids.take j) + cntE (e.kids.getD j Ex.z) ≤ cntL e.kids := by
            have h3 := cntL_take e.kids (j + 1)
            rw [takeE (by rw [HL.out]; exact hlt), cntL_append] at h3
            simp only [cntL] at h3
            omega
          have h4 := HCL.out
          simp only [List.length_append, List.length_cons, List.length_nil]
          omega)
        have C1 : Hid (∀ W, Below wr.heap.size wr W → Calls Try.prog 22 #[u, .agg #[.int .i64 (e.kids.getD j Ex.z).op, .int .i64 (e.kids.getD j Ex.z).ty, .int .i64 (e.kids.getD j Ex.z).num, .string (e.kids.getD j Ex.z).text, .int .i64 (e.kids.getD j Ex.z).col, .slice a1 len1 cap1]] W fun r w' => ∃ v', r = .returned v' ∧ w'.ownsRow base 3 1 v' (((xs ++ [e.col]) ++ colsL (e.kids.take j)) ++ colsE (e.kids.getD j Ex.z)).length (flatI (((xs ++ [e.col]) ++ colsL (e.kids.take j)) ++ colsE (e.kids.getD j Ex.z))) ∧ Hold W u w' v') := Lib.hid (fun W hW => HI.out _ hmem base u _ a1 len1 cap1 W (hk1.low_ (HBW.out.trans (hW.mono (by omega)))) (own_later' HU.out hW) (by have := hW.size; omega) HC.out)
        clear q0 q1 q2 q3 q4 q5 hk1 hfine hmem hok hb
        rw [List.append_assoc, ← HG.out] at C1
        generalize e.kids.getD j Ex.z = kid at *
        go_wp2_with (go_at_call 22; ((with_reducible refine (C1.out _ ?_).mono ?_); (· (repeat first | with_reducible exact Below.refl _ _ | with_reducible refine Below.setCell ?_ (by first | omega | (simp; done) | (simp; omega)) _ | with_reducible refine Below.alloc ?_ (by first | omega | (simp; done) | (simp; omega)) _ | with_reducible refine Below.drew ?_ | with_reducible refine Ext.on _ ?_ (by first | omega | (simp; done) | (simp; omega)))); rintro r w2 hq; obtain ⟨v2, rfl, ho2, hh2⟩ := hq; have HO2 := Lib.hid ho2; have HH2 := Lib.hid hh2; clear ho2 hh2))
        go_roundw
        case rel =>
          refine ⟨j + 1, _, by omega, by go_num, rfl, HO2.out, (HH.out.step (Hold.ofBelow ?_)).step HH2.out⟩
          repeat first | with_reducible exact Below.refl _ _ | with_reducible refine Below.setCell ?_ (by first | omega | (simp; done) | (simp; omega)) _ | with_reducible refine Below.alloc ?_ (by first | omega | (simp; done) | (simp; omega)) _ | with_reducible refine Below.drew ?_ | with_reducible refine Ext.on _ ?_ (by first | omega | (simp; done) | (simp; omega))
        case measure => simp [intOf]; omega
      · obtain rfl : j = len := by omega
        have HT : Hid ((xs ++ [e.col]) ++ colsL (e.kids.take j) = xs ++ colsE e) := Lib.hid (by rw [List.take_of_length_le (by rw [HL.out]; exact Nat.le_refl _), HE2.out]; simp)
        rw [HT.out] at HU
        go_wp2_with fail
        go_ret
        exact ⟨u, rfl, HU.out, HH.out⟩
  · have bop : (e.op == 5) = false := by simpa using hop
    have HE2 : Hid (colsE e = colsL e.kids) := Lib.hid (by rw [HE.out, if_neg hop, List.nil_append])
    clear hop HE
    have HHS : Hid (Hold w v (w.alloc (.cells #[.int .i64 e.op, .int .i64 e.ty, .int .i64 e.num, .string e.text, .int .i64 e.col, .slice a len cap] 24)) v) := Lib.hid (Hold.ofBelow (by repeat first | with_reducible exact Below.refl _ _ | with_reducible refine Below.setCell ?_ (by first | omega | (simp; done) | (simp; omega)) _ | with_reducible refine Below.alloc ?_ (by first | omega | (simp; done) | (simp; omega)) _ | with_reducible refine Below.drew ?_ | with_reducible refine Ext.on _ ?_ (by first | omega | (simp; done) | (simp; omega))))
    have HOS : Hid ((w.alloc (.cells #[.int .i64 e.op, .int .i64 e.ty, .int .i64 e.num, .string e.text, .int .i64 e.col, .slice a len cap] 24)).ownsRow base 3 1 v xs.length (flatI xs)) := Lib.hid (own_later' HO.out (by repeat first | with_reducible exact Below.refl _ _ | with_reducible refine Below.setCell ?_ (by first | omega | (simp; done) | (simp; omega)) _ | with_reducible refine Below.alloc ?_ (by first | omega | (simp; done) | (simp; omega)) _ | with_reducible refine Below.drew ?_ | with_reducible refine Ext.on _ ?_ (by first | omega | (simp; done) | (simp; omega))))
    go_enter Try.func22, Try.ntmps22
    go_wp2_with fail
    go_loopw [0, 18] (fun u i wr => ∃ (j : Nat) (x : Value), j ≤ len ∧ i = .int .i64 j ∧ x = u ∧ wr.ownsRow base 3 1 u (xs ++ colsL (e.kids.take j)).length (flatI (xs ++ colsL (e.kids.take j))) ∧ Hold w v wr u) (fun _ i _ => len - (intOf i).toNat)
    case atStart => exact ⟨0, _, Nat.zero_le _, rfl, rfl, by rw [List.take_zero, colsL, List.append_nil]; exact HOS.out, HHS.out⟩
    case round =>
      obtain ⟨j, u, hj, rfl, hu, hou, hhu⟩ := hrel
      subst hu
      have HU := Lib.hid hou
      have HH := Lib.hid hhu
      have HBW := Lib.hid (hhu.below HO.out hbase)
      have hws := hhu.size
      clear hou hhu
      by_cases hlt : j < len
      · obtain ⟨a1, len1, cap1, ⟨b, off, rfl, hb, hok, q0, q1, q2, q3, q4, q5⟩, hfine, hk1⟩ := HK.out.at_ hlt
        have r0 := (HBW.out.cell (p := ⟨b, off + j * 6, none⟩) hok).trans q0
        have r1 := (HBW.out.cell (p := ⟨b, off + j * 6 + 1, none⟩) hok).trans q1
        have r2 := (HBW.out.cell (p := ⟨b, off + j * 6 + 2, none⟩) hok).trans q2
        have r3 := (HBW.out.cell (p := ⟨b, off + j * 6 + 3, none⟩) hok).trans q3
        have r4 := (HBW.out.cell (p := ⟨b, off + j * 6 + 4, none⟩) hok).trans q4
        have r5 := (HBW.out.cell (p := ⟨b, off + j * 6 + 5, none⟩) hok).trans q5
        have hmem := getD_mem (l := e.kids) (i := j) (by rw [HL.out]; exact hlt)
        have HG := Lib.hid (colsL_go (l := e.kids) (j := j) (by rw [HL.out]; exact hlt))
        have HC : Hid ((xs ++ colsL (e.kids.take j)).length + cntE (e.kids.getD j Ex.z) ≤ 2 ^ 22) := Lib.hid (by
          have h1 := colsL_len (e.kids.take j)
          have h2 : cntL (e.kids.take j) + cntE (e.kids.getD j Ex.z) ≤ cntL e.kids := by
            have h3 := cntL_take e.kids (j + 1)
            rw [takeE (by rw [HL.out]; exact hlt), cntL_append] at h3
            simp only [cntL] at h3
            omega
          have h4 := HCL.out
          simp only [List.length_append]
          omega)
        have C1 : Hid (∀ W, Below wr.heap.size wr W → Calls Try.prog 22 #[u, .agg #[.int .i64 (e.kids.getD j Ex.z).op, .int .i64 (e.kids.getD j Ex.z).ty, .int .i64 (e.kids.getD j Ex.z).num, .string (e.kids.getD j Ex.z).text, .int .i64 (e.kids.getD j Ex.z).col, .slice a1 len1 cap1]] W fun r w' => ∃ v', r = .returned v' ∧ w'.ownsRow base 3 1 v' ((xs ++ colsL (e.kids.take j)) ++ colsE (e.kids.getD j Ex.z)).length (flatI ((xs ++ colsL (e.kids.take j)) ++ colsE (e.kids.getD j Ex.z))) ∧ Hold W u w' v') := Lib.hid (fun W hW => HI.out _ hmem base u _ a1 len1 cap1 W (hk1.low_ (HBW.out.trans (hW.mono (by omega)))) (own_later' HU.out hW) (by have := hW.size; omega) HC.out)
        clear q0 q1 q2 q3 q4 q5 hk1 hfine hmem hok hb
        rw [List.append_assoc, ← HG.out] at C1
        generalize e.kids.getD j Ex.z = kid at *
        go_wp2_with (go_at_call 22; ((with_reducible refine (C1.out _ ?_).mono ?_); (· (repeat first | with_reducible exact Below.refl _ _ | with_reducible refine Below.setCell ?_ (by first | omega | (simp; done) | (simp; omega)) _ | with_reducible refine Below.alloc ?_ (by first | omega | (simp; done) | (simp; omega)) _ | with_reducible refine Below.drew ?_ | with_reducible refine Ext.on _ ?_ (by first | omega | (simp; done) | (simp; omega)))); rintro r w2 hq; obtain ⟨v2, rfl, ho2, hh2⟩ := hq; have HO2 := Lib.hid ho2; have HH2 := Lib.hid hh2; clear ho2 hh2))
        go_roundw
        case rel =>
          refine ⟨j + 1, _, by omega, by go_num, rfl, HO2.out, (HH.out.step (Hold.ofBelow ?_)).step HH2.out⟩
          repeat first | with_reducible exact Below.refl _ _ | with_reducible refine Below.setCell ?_ (by first | omega | (simp; done) | (simp; omega)) _ | with_reducible refine Below.alloc ?_ (by first | omega | (simp; done) | (simp; omega)) _ | with_reducible refine Below.drew ?_ | with_reducible refine Ext.on _ ?_ (by first | omega | (simp; done) | (simp; omega))
        case measure => simp [intOf]; omega
      · obtain rfl : j = len := by omega
        have HT : Hid (xs ++ colsL (e.kids.take j) = xs ++ colsE e) := Lib.hid (by rw [List.take_of_length_le (by rw [HL.out]; exact Nat.le_refl _), HE2.out])
        rw [HT.out] at HU
        go_wp2_with fail
        go_ret
        exact ⟨u, rfl, HU.out, HH.out⟩
end Go.Proofs.Ytonnbmiallammaa
