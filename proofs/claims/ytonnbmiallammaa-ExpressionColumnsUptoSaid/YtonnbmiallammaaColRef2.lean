/-
  The columns of an expression, as the reference gathers them: its Columns, for all expressions.
-/
import Derived.Test.YtonnbmiallammaaColRef
import Derived.Test.YtonnbmiallammaaBulk
import Derived.LoopTactic
set_option linter.unusedVariables false
namespace Go.Proofs.Ytonnbmiallammaa
open Go Go.RowKit Go.Deep
theorem fold_len (m : List Int) : ∀ acc : List Int, (m.foldl insI acc).length ≤ acc.length + m.length := by
  induction m with
  | nil => intro acc; simp
  | cons y m ih => intro acc; have h1 := ih (insI acc y); have h2 := insI_len acc y; rw [List.foldl_cons, List.length_cons]; omega
theorem rcE_len : ∀ e : Ex, (rcE e).length ≤ cntE e := by
  refine Ex.ind fun e ih => ?_
  have key : ∀ (l : List Ex), (∀ k ∈ l, (rcE k).length ≤ cntE k) → ∀ acc, (rcL acc l).length ≤ acc.length + cntL l := by
    intro l
    induction l with
    | nil => intro _ acc; rw [rcL]; omega
    | cons k r ih2 =>
      intro hk acc
      have h1 := ih2 (fun k' hk' => hk k' (List.mem_cons_of_mem _ hk')) ((rcE k).foldl insI acc)
      have h2 := fold_len (rcE k) acc
      have h3 := hk k (List.mem_cons_self ..)
      rw [rcL, cntL]
      omega
  have h := key e.kids ih []
  have h2 := insI_len (rcL [] e.kids) e.col
  rw [rcE_eq, cntE_eq]
  simp only [List.length_nil] at h
  split <;> omega
theorem rcL_len (l : List Ex) : (rcL [] l).length ≤ cntL l := by
  have key : ∀ (l : List Ex) (acc : List Int), (rcL acc l).length ≤ acc.length + cntL l := by
    intro l
    induction l with
    | nil => intro acc; rw [rcL]; omega
    | cons k r ih2 =>
      intro acc
      have h1 := ih2 ((rcE k).foldl insI acc)
      have h2 := fold_len (rcE k) acc
      have h3 := rcE_len k
      rw [rcL, cntL]
      omega
  simpa using key l []
theorem cntL_take (l : List Ex) (j : Nat) : cntL (l.take j) ≤ cntL l := by
  conv => rhs; rw [← List.take_append_drop j l, cntL_append]
  omega
theorem takeE {l : List Ex} {j : Nat} (h : j < l.length) : l.take (j + 1) = l.take j ++ [l.getD j Ex.z] := by
  rw [List.take_add_one, List.getElem?_eq_getElem h]; simp [List.getD, h]
theorem takeI {l : List Int} {j : Nat} (h : j < l.length) : l.take (j + 1) = l.take j ++ [l.getD j 0] := by
  rw [List.take_add_one, List.getElem?_eq_getElem h]; simp [List.getD, h]
theorem fold_go {m acc : List Int} {k : Nat} (h : k < m.length) : (m.take (k + 1)).foldl insI acc = insI ((m.take k).foldl insI acc) (m.getD k 0) := by
  rw [takeI h, List.foldl_append]; rfl
theorem insert_use (s : Sl) (l : List Int) (n : Int) (w : World) (h : IntsIn w s l) (hl : l.length ≤ 2 ^ 40) :
    Calls Try.prog 25 #[.slice s.a s.len s.cap, .int .i64 n] w fun r w' => ∃ s' : Sl, r = .returned (.slice s'.a s'.len s'.cap) ∧ IntsIn w' s' (insI l n) ∧ Cls w w' := insert_calls s l n w h hl
def RColsOf (e : Ex) : Prop := ∀ (a : Option Addr) (len cap : Nat) (w : World), Kids w (fun _ => True) a len cap e.kids → cntE e ≤ 2 ^ 21 →
    Calls Try.prog 10 #[.agg #[.int .i64 (e).op, .int .i64 (e).ty, .int .i64 (e).num, .string (e).text, .int .i64 (e).col, .slice a len cap]] w fun r w' => ∃ s : Sl, r = .returned (.slice s.a s.len s.cap) ∧ IntsIn w' s (rcE e) ∧ Cls w w'
set_option maxHeartbeats 4000000 in
set_option maxRecDepth 20000 in
theorem rColumns_calls : ∀ e : Ex, RColsOf e := by
  refine Ex.ind fun e ih => ?_
  intro a len cap w hk hcnt
  have hle := hk.le
  have hmax := hk.max
  unfold maxLen at hmax
  have HL := Lib.hid hk.len_eq
  have HK := Lib.hid hk
  have HI := Lib.hid ih
  have hcl : cntL e.kids ≤ 2 ^ 21 := by rw [cntE_eq] at hcnt; omega
  have HCL := Lib.hid hcl
  have HE := Lib.hid (rcE_eq e)
  clear hk ih hcnt hcl
  go_enter Try.func10, Try.ntmps10
  go_wp2_with fail
  go_loopw [3, 4] (fun u i wr => ∃ (j : Nat) (s : Sl), j ≤ len ∧ i = .int .i64 j ∧ u = .slice s.a s.len s.cap ∧ IntsIn wr s (rcL [] (e.kids.take j)) ∧ Cls (w.alloc (.cells #[.int .i64 e.op, .int .i64 e.ty, .int .i64 e.num, .string e.text, .int .i64 e.col, .slice a len cap] 24)) wr) (fun _ i _ => len - (intOf i).toNat)
  case atStart => exact ⟨0, Sl.z, Nat.zero_le _, rfl, rfl, by rw [List.take_zero, rcL]; exact IntsIn.nil, Cls.of (Below.refl _ _)⟩
  case round =>
    obtain ⟨j, s, hj, rfl, rfl, hin, y, rfl⟩ := hrel
    have HIN := Lib.hid hin
    clear hin
    have ys := y.size
    simp at ys
    by_cases hlt : j < len
    · obtain ⟨a1, len1, cap1, ⟨b, off, rfl, hb, hok, q0, q1, q2, q3, q4, q5⟩, hfine, hk1⟩ := HK.out.at_ hlt
      have hb1 : b < w.heap.size + 1 := by omega
      have hmem := getD_mem (l := e.kids) (i := j) (by rw [HL.out]; exact hlt)
      have hkc : cntE (e.kids.getD j Ex.z) ≤ 2 ^ 21 := by have := cntL_mem hmem; have := HCL.out; omega
      have C1 : Hid (∀ W, Below w.heap.size w W → Calls Try.prog 10 #[.agg #[.int .i64 (e.kids.getD j Ex.z).op, .int .i64 (e.kids.getD j Ex.z).ty, .int .i64 (e.kids.getD j Ex.z).num, .string (e.kids.getD j Ex.z).text, .int .i64 (e.kids.getD j Ex.z).col, .slice a1 len1 cap1]] W fun r w' => ∃ s : Sl, r = .returned (.slice s.a s.len s.cap) ∧ IntsIn w' s (rcE (e.kids.getD j Ex.z)) ∧ Cls W w') := Lib.hid (fun W hW => HI.out _ hmem a1 len1 cap1 W (hk1.later hW) hkc)
      have HR : Hid ((rcE (e.kids.getD j Ex.z)).length ≤ 2 ^ 21) := Lib.hid (Nat.le_trans (rcE_len _) hkc)
      have HA : Hid ((rcL [] (e.kids.take j)).length ≤ 2 ^ 21) := Lib.hid (Nat.le_trans (rcL_len _) (Nat.le_trans (cntL_take _ _) HCL.out))
      have HG : Hid (rcL [] (e.kids.take (j + 1)) = (rcE (e.kids.getD j Ex.z)).foldl insI (rcL [] (e.kids.take j))) := Lib.hid (by rw [takeE (by rw [HL.out]; exact hlt), rcL_append, rcL, rcL])
      clear hk1 hfine hok hmem hkc
      generalize rcE (e.kids.getD j Ex.z) = rk at C1 HR HG
      generalize e.kids.getD j Ex.z = kid at *
      generalize rcL [] (e.kids.take j) = acc at *
      go_wp2_with (go_at_call 10; ((with_reducible refine (C1.out _ ?_).mono ?_); (· (repeat first | with_reducible exact Below.refl _ _ | with_reducible refine Below.setCell ?_ (by first | omega | (simp; done) | (simp; omega)) _ | with_reducible refine Below.alloc ?_ (by first | omega | (simp; done) | (simp; omega)) _ | with_reducible refine Below.drew ?_ | with_reducible refine Ext.on _ ?_ (by first | omega | (simp; done) | (simp; omega)))); rintro r w2 hq; obtain ⟨s2, rfl, h2, z, rfl⟩ := hq; have H2 := Lib.hid h2; clear h2; have zs := z.size))
      go_loopw [3, 6] (fun u i wr => ∃ (k : Nat) (s3 : Sl), k ≤ rk.length ∧ i = .int .i64 k ∧ u = .slice s3.a s3.len s3.cap ∧ IntsIn wr s3 ((rk.take k).foldl insI acc) ∧ Cls z.val wr) (fun _ i _ => rk.length - (intOf i).toNat)
      case atStart => exact ⟨0, s, Nat.zero_le _, rfl, rfl, by rw [List.take_zero, List.foldl_nil]; exact HIN.out.later z.below, Cls.of (Below.refl _ _)⟩
      case round =>
        obtain ⟨k, s3, hk3, rfl, rfl, h3, x, rfl⟩ := hrel
        have H3 := Lib.hid h3
        clear h3
        have hs2l : s2.len = rk.length := H2.out.1
        have hs2c : s2.len ≤ s2.cap := H2.out.2.1
        have hs2m : s2.cap ≤ maxLen := H2.out.2.2.1
        unfold maxLen at hs2m
        have HSL := Lib.hid hs2l
        by_cases hlt3 : k < rk.length
        · obtain ⟨b3, off3, ha3, hb3, q⟩ := H2.out.at_ hlt3
          have HF := Lib.hid (fold_go (acc := acc) hlt3)
          have HB : Hid (((rk.take k).foldl insI acc).length ≤ 2 ^ 40) := Lib.hid (by have h1 := fold_len (rk.take k) acc; have h2 := HR.out; have h3 := HA.out; have h4 := List.length_take_le k rk; omega)
          have hlt4 : k < s2.len := by omega
          generalize (rk.take k).foldl insI acc = cur at *
          generalize rk.getD k 0 = v at *
          obtain ⟨sa, sn, sc⟩ := s2
          simp only at ha3 hs2l hs2c hs2m hlt4
          subst ha3
          clear hs2l
          go_wp2_with (go_at_call 25; ((with_reducible refine (insert_use s3 cur v _ H3.out HB.out).mono ?_); rintro r w2 hq; obtain ⟨s4, rfl, h4, t, rfl⟩ := hq; have H4 := Lib.hid h4; clear h4))
          go_roundw
          case rel => exact ⟨k + 1, s4, by omega, by go_num, rfl, by rw [HF.out]; exact H4.out, Cls.of (t.on x.below x.size)⟩
          case measure => simp [intOf]; omega
        · obtain rfl : k = rk.length := by omega
          have hlt4 : ¬ rk.length < s2.len := by omega
          obtain ⟨sa, sn, sc⟩ := s2
          simp only at hs2l hs2c hs2m hlt4
          clear hs2l
          go_wp2_with fail
          go_roundw
          case rel =>
            refine ⟨j + 1, s3, by omega, by go_num, rfl, ?_, Cls.of ?_⟩
            · rw [HG.out]; have h := H3.out; rw [List.take_length] at h; exact h
            · repeat first | with_reducible exact Below.refl _ _ | with_reducible refine Below.setCell ?_ (by first | omega | (simp; done) | (simp; omega)) _ | with_reducible refine Below.alloc ?_ (by first | omega | (simp; done) | (simp; omega)) _ | with_reducible refine Below.drew ?_ | with_reducible refine Ext.on _ ?_ (by first | omega | (simp; done) | (simp; omega))
          case measure => simp [intOf]; omega
    · obtain rfl : j = len := by omega
      have HT : Hid (e.kids.take j = e.kids) := Lib.hid (List.take_of_length_le (by rw [HL.out]; exact Nat.le_refl _))
      rw [HT.out] at HIN
      have HB : Hid ((rcL [] e.kids).length ≤ 2 ^ 40) := Lib.hid (by have := rcL_len e.kids; have := HCL.out; omega)
      by_cases hop : e.op = 5
      · have bop : (e.op == 5) = true := by simpa using hop
        have HE2 : Hid (rcE e = insI (rcL [] e.kids) e.col) := Lib.hid (by rw [HE.out, if_pos hop])
        clear hop
        go_wp2_with (go_at_call 25; ((with_reducible refine (insert_use s (rcL [] e.kids) e.col _ HIN.out HB.out).mono ?_); rintro r w2 hq; obtain ⟨s4, rfl, h4, t, rfl⟩ := hq; have H4 := Lib.hid h4; clear h4))
        go_ret
        refine ⟨s4, rfl, by rw [HE2.out]; exact H4.out, Cls.of ?_⟩
        repeat first | with_reducible exact Below.refl _ _ | with_reducible refine Below.setCell ?_ (by first | omega | (simp; done) | (simp; omega)) _ | with_reducible refine Below.alloc ?_ (by first | omega | (simp; done) | (simp; omega)) _ | with_reducible refine Below.drew ?_ | with_reducible refine Ext.on _ ?_ (by first | omega | (simp; done) | (simp; omega))
      · have bop : (e.op == 5) = false := by simpa using hop
        have HE2 : Hid (rcE e = rcL [] e.kids) := Lib.hid (by rw [HE.out, if_neg hop])
        clear hop
        go_wp2_with fail
        go_ret
        refine ⟨s, rfl, by rw [HE2.out]; exact HIN.out, Cls.of ?_⟩
        repeat first | with_reducible exact Below.refl _ _ | with_reducible refine Below.setCell ?_ (by first | omega | (simp; done) | (simp; omega)) _ | with_reducible refine Below.alloc ?_ (by first | omega | (simp; done) | (simp; omega)) _ | with_reducible refine Below.drew ?_ | with_reducible refine Ext.on _ ?_ (by first | omega | (simp; done) | (simp; omega))
end Go.Proofs.Ytonnbmiallammaa
