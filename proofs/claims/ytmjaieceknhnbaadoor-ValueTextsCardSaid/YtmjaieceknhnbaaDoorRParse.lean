/-
  What the reference's Parse gives: the only valid value whose text the string is, else an error. Condition: the string has at most 200 bytes.
-/
import Derived.Test.YtmjaieceknhnbaaDoorRCand
import Derived.Deep.RegionWith
set_option linter.unusedVariables false
namespace Go.Proofs.YtmjaieceknhnbaaDoor
open Go Go.RowKit Lib
/-- None of the first candidates is the value of the text. -/
def Match (s : ByteArray) (c : Cd) : Prop := vB c.k c.n c.t = true ∧ txt c.k c.n c.t = s.data.toList
def NoneIn (s : ByteArray) (j : Nat) : Prop := ∀ i, i < j → ¬ Match s ((cands s).getD i Cd.z)
theorem NoneIn.zero (s : ByteArray) : NoneIn s 0 := fun i h => absurd h (by omega)
theorem NoneIn.succ {s : ByteArray} {j : Nat} (h : NoneIn s j) (hj : ¬ Match s ((cands s).getD j Cd.z)) : NoneIn s (j + 1) := fun i hi => by
  by_cases e : i = j
  · subst e; exact hj
  · exact h i (by omega)
theorem NoneIn.all {s : ByteArray} {j : Nat} (h : NoneIn s j) (hl : (cands s).length ≤ j) : ∀ k n t, vB k n t = true → txt k n t ≠ s.data.toList := fun k n t hv ht => by
  obtain ⟨i, hi, e⟩ := List.getElem_of_mem (cand_all hv ht)
  have := h i (by omega)
  apply this
  rw [show (cands s).getD i Cd.z = ⟨k, n, t⟩ by simp [List.getD, hi, e]]
  exact ⟨hv, ht⟩
theorem cand_size {s : ByteArray} (h : s.size ≤ 200) (j : Nat) : ((cands s).getD j Cd.z).t.size ≤ maxLen := by
  have key : ∀ c ∈ cands s, c.t.size ≤ 200 := by
    have hb : ∀ c ∈ baseC, c.t.size ≤ 200 := by intro c hc; simp [baseC] at hc; rcases hc with rfl | rfl | rfl <;> decide
    have ht : (textC s).t.size ≤ 200 := by unfold textC; rw [ByteArray.size_extract]; omega
    have hi : (intC s).t.size ≤ 200 := by unfold intC; show (0 : Nat) ≤ 200; omega
    intro c hc
    unfold cands at hc
    split at hc <;> simp only [List.mem_append, List.mem_singleton] at hc
    · rcases hc with (hc | rfl) | rfl
      · exact hb _ hc
      · exact ht
      · exact hi
    · rcases hc with hc | rfl
      · exact hb _ hc
      · exact hi
  unfold maxLen
  by_cases hj : j < (cands s).length
  · have := key ((cands s).getD j Cd.z) (by simp [List.getD, hj])
    omega
  · have : (cands s).getD j Cd.z = Cd.z := by simp [List.getD, List.getElem?_eq_none (by omega : (cands s).length ≤ j)]
    rw [this]
    show (0 : Nat) ≤ _
    omega
theorem refNum_bd14 {l : List UInt8} (h : l.length ≤ 14) : 0 ≤ refNum 0 l ∧ refNum 0 l ≤ 99999999999999 := by
  obtain ⟨h1, h2⟩ := refNum_lt l 0
  refine ⟨h1, ?_⟩
  have h3 : (10 : Int) ^ l.length ≤ 10 ^ 14 := by
    have : (10 : Nat) ^ l.length ≤ 10 ^ 14 := Nat.pow_le_pow_right (by decide) h
    exact_mod_cast this
  have e : (10 : Int) ^ 14 = 100000000000000 := by decide
  simp at h1 h2
  omega
theorem cells_int {w : World} {l l' : List Value} (h : l = l') : ∀ j u, l[j]? = some u → (w.alloc (.cells l'.toArray 23)).cell? ((⟨w.heap.size, 0, none⟩ : Addr).add j) = some u := by
  subst h; exact cells_new w l 23
theorem cells_int2 {w : World} {o : Obj} {l l' : List Value} (h : l = l') : ∀ j u, l[j]? = some u → ((w.alloc o).alloc (.cells l'.toArray 23)).cell? ((⟨w.heap.size + 1, 0, none⟩ : Addr).add j) = some u := by
  subst h
  have := cells_new (w.alloc o) l 23
  simpa using this
theorem bel_grown2 {w w1 w2 : World} {o o' : Obj} {v : Value} {n : Nat} {xs : List Value} (hb : Below (w.heap.size + 1) (w.alloc o) w1) (hown : w1.ownsRow (w.heap.size + 1) 23 3 v n xs) (hg : (w1.alloc o').grownBy w2 v.ownBlock) : Below (w.heap.size + 1) (w.alloc o) w2 := by
  have hs := hb.size
  simp at hs
  exact Below.grown (hb.alloc (by omega) o') hg (by simp; omega) (fun k hk => (hown.lt k hk).1)
theorem eq_text {s : ByteArray} {l : List UInt8} (h : (l == s.toList) = true) : l = s.data.toList := by
  rw [toList_data] at h; simpa using h
theorem ne_text {s : ByteArray} {l : List UInt8} (h : (l == s.toList) = false) : l ≠ s.data.toList := by
  rw [toList_data] at h; simpa using h
theorem bel_tab {w w2 : World} {o : Obj} (hb : Below (w.heap.size + 1) (w.alloc o) w2) (y : Ext w2) : Below w.heap.size w y.val := by
  have hs := hb.size
  simp at hs
  exact (((Below.refl _ _).alloc (Nat.le_refl _) o).trans (hb.mono (by omega))).trans (y.below.mono (by omega))
theorem base_own {w : World} {o : Obj} (y : Ext (w.alloc o)) : (y.val.alloc (.cells #[.int .i64 0, .int .i64 0, .string ⟨#[]⟩, .int .i64 2, .int .i64 0, .string ⟨#[]⟩, .int .i64 2, .int .i64 1, .string ⟨#[]⟩] 23)).ownsRow (w.heap.size + 1) 23 3 (.slice (some ⟨y.val.heap.size, 0, none⟩) 3 3) 3 (flatC baseC) :=
  World.ownsRow_lit y.val #[.int .i64 0, .int .i64 0, .string ⟨#[]⟩, .int .i64 2, .int .i64 0, .string ⟨#[]⟩, .int .i64 2, .int .i64 1, .string ⟨#[]⟩] 3 (by have := y.size; simp at this; omega) (by unfold maxLen; omega) rfl
theorem base_own2 {w : World} {o : Obj} (y : Ext (w.alloc o)) (o' : Obj) : ((y.val.alloc (.cells #[.int .i64 0, .int .i64 0, .string ⟨#[]⟩, .int .i64 2, .int .i64 0, .string ⟨#[]⟩, .int .i64 2, .int .i64 1, .string ⟨#[]⟩] 23)).alloc o').ownsRow (w.heap.size + 1) 23 3 (.slice (some ⟨y.val.heap.size, 0, none⟩) 3 3) 3 (flatC baseC) :=
  own_later (base_own y) ((Below.refl _ _).alloc (Nat.le_refl _) _)
theorem cells_new2 (w : World) (o : Obj) (l : List Value) : ∀ j u, l[j]? = some u → ((w.alloc o).alloc (.cells l.toArray 23)).cell? ((⟨w.heap.size + 1, 0, none⟩ : Addr).add j) = some u := by
  have := cells_new (w.alloc o) l 23
  simpa using this
theorem bel_grown {w w1 : World} {o o' o2 : Obj} (y : Ext (w.alloc o)) (hg : ((y.val.alloc o').alloc o2).grownBy w1 (Value.slice (some ⟨y.val.heap.size, 0, none⟩) 3 3).ownBlock) : Below (w.heap.size + 1) (w.alloc o) w1 := by
  have ys := y.size
  simp at ys
  refine Below.grown (((y.below.mono (by simp)).alloc (by omega) o').alloc (by simp; omega) o2) hg (by simp; omega) (fun k hk => ?_)
  simp [Value.ownBlock] at hk
  omega
set_option maxHeartbeats 4000000 in
set_option maxRecDepth 100000 in
theorem rParse_short (s : ByteArray) (w : World) (hs : s.size < 2) (htab : Tab w) :
    Calls Tryd.prog 9 #[.string s] w fun e w' => ParseIs s.data.toList e ∧ Cls w w' := by
  obtain ⟨i0, hi, hz0, hz1, hz2⟩ := info_parts infoV
  have HT : Hid (∀ w', Below w.heap.size w w' → Tab w') := Lib.hid (fun w' hw => htab.later hw)
  clear htab
  have hg : decide (2 ≤ (s.size : Int)) = false := by simp; omega
  have h14 : decide ((s.size : Int) ≤ 14) = true := by simp; omega
  go_enter Tryd.func9, Tryd.ntmps9
  go_wp2_with (first | (go_at_call_of 30 (Value.int .i64 0); ((with_reducible refine (rbool_no _).mono ?_); rintro e _ ⟨rfl, y, rfl⟩)) | (go_at_call 30; ((with_reducible refine (Cls.call (rbool_yes _)).mono ?_); rintro e _ ⟨rfl, y2, rfl⟩)))
  go_loop [5, 6, 7] (fun n b i => ∃ j : Nat, j ≤ s.size ∧ n = .int .i64 (refNum 0 (s.data.toList.take j)) ∧ b = .bool (refNeg (s.data.toList.take j)) ∧ i = .int .i64 j) (fun _ _ i => s.size - (RowKit.intOf i).toNat)
  case atStart => exact ⟨0, Nat.zero_le _, rfl, rfl, rfl⟩
  case round =>
    obtain ⟨j, hj, rfl, rfl, rfl⟩ := hrel
    by_cases hlt : j < s.size
    · have hl13 : (s.data.toList.take j).length ≤ 13 := by rw [List.length_take]; omega
      obtain ⟨nb1, nb2⟩ := refNum_bd hl13
      have HN := Lib.hid (refNum_snoc (s.data.toList.take j) s[j] 0)
      have HG := Lib.hid (refNeg_snoc (s.data.toList.take j) s[j])
      have HK := Lib.hid (take_snoc s j hlt)
      clear hl13
      cases hn : refNeg (s.data.toList.take j)
      all_goals
        have HNEG := Lib.hid hn
        clear hn
        go_wp2_with fail
        all_goals
          go_round
          case rel =>
            refine ⟨j + 1, by omega, congrArg (Value.int .i64) ?_, congrArg Value.bool ?_, by go_num⟩
            · rw [HK.out, HN.out]
              first | (rw [if_pos ⟨by omega, by omega⟩]; omega) | rw [if_neg (by omega)]
            · rw [HK.out, HG.out, HNEG.out]
              first | rfl | (rw [Bool.false_or, Bool.eq_iff_iff]; simp; omega)
          case measure => simp [RowKit.intOf]; omega
    · have hjs : j = s.size := by omega
      subst hjs
      have hl : s.data.toList.length = s.size := by rw [Array.length_toList]; rfl
      rw [List.take_of_length_le (by omega)]
      obtain ⟨nb1, nb2⟩ := refNum_bd14 (l := s.data.toList) (by omega)
      clear hl
      cases hn : refNeg s.data.toList
      case false =>
        have HI : Hid ((intC s).cells = [.int .i64 1, .int .i64 (refNum 0 s.data.toList), .string ⟨#[]⟩]) := Lib.hid (by unfold intC numOf refInt; rw [if_pos (by omega), hn]; rfl)
        clear hn
        go_wp2_with (at_builtin; refine wpList_append_own _ rfl _ _ 40 rfl (w.heap.size + 1) 23 i0 (.agg #[.int .i64 0, .int .i64 0, .string ⟨#[]⟩]) 3 32 Tryd.underlying40 hi hz0 hz1 hz2 rfl (by decide) _ 3 (flatC baseC) rfl (base_own2 y2 _) ⟨y2.val.heap.size + 1, 0, none⟩ 1 1 (intC s).cells rfl rfl (cells_int2 HI.out) (cellsC_one _) (by unfold maxLen; omega) (by omega) (by have := y2.size; simp at this ⊢; omega) ?_; intro v2 w2 hown2 hg2 _; have HO2 := Lib.hid (show w2.ownsRow (w.heap.size + 1) 23 3 v2 4 (flatC (baseC ++ [intC s])) by rw [flatC_append, flatC_single]; exact hown2); have bel2 := bel_grown y2 hg2; clear hown2 hg2)
        have HC : Hid (cands s = (baseC ++ [intC s])) := Lib.hid (by unfold cands; rw [if_neg (by omega)])
        have HLL : Hid ((cands s).length = 4) := Lib.hid (by rw [HC.out]; rfl)
        rw [← HC.out] at HO2
        obtain ⟨g, cap, rfl, hcap, hmax, hg2, hreads⟩ := own_reads HO2.out (by omega)
        clear HO2
        unfold maxLen at hmax
        have r0 : w2.cell? ⟨w.heap.size, 0, none⟩ = some (.int .i64 0) := by rw [bel2.cell (p := ⟨w.heap.size, 0, none⟩) (by simp)]; simp [go_sem]
        have r1 : w2.cell? ⟨w.heap.size, 1, none⟩ = some (.int .i64 0) := by rw [bel2.cell (p := ⟨w.heap.size, 1, none⟩) (by simp)]; simp [go_sem]
        have r2 : w2.cell? ⟨w.heap.size, 2, none⟩ = some (.string ⟨#[]⟩) := by rw [bel2.cell (p := ⟨w.heap.size, 2, none⟩) (by simp)]; simp [go_sem]
        have f0 : w2.frozen? ⟨w.heap.size, 0, none⟩ = false := by rw [bel2.frozen (p := ⟨w.heap.size, 0, none⟩) (by simp)]; simp [go_sem]
        have f1 : w2.frozen? ⟨w.heap.size, 1, none⟩ = false := by rw [bel2.frozen (p := ⟨w.heap.size, 1, none⟩) (by simp)]; simp [go_sem]
        have f2 : w2.frozen? ⟨w.heap.size, 2, none⟩ = false := by rw [bel2.frozen (p := ⟨w.heap.size, 2, none⟩) (by simp)]; simp [go_sem]
        have bw2 : Below w.heap.size w w2 := bel_tab bel2 ⟨w2, Below.refl _ _⟩
        go_wp2_with fail
        go_loopw [8] (fun i wr => ∃ j : Nat, j ≤ 4 ∧ i = .int .i64 j ∧ NoneIn s j ∧ Cls w2 wr) (fun i _ => 4 - (RowKit.intOf i).toNat)
        case atStart => exact ⟨0, Nat.zero_le _, rfl, NoneIn.zero s, Cls.of (Below.refl _ _)⟩
        case round =>
          obtain ⟨j, hj, rfl, hno, x, rfl⟩ := hrel
          have HNO := Lib.hid hno
          clear hno
          have bx := bel2.size
          simp at bx
          have xs := x.size
          have hw2 : w.heap.size < w2.heap.size := by omega
          obtain ⟨m1, m2, _, _, _⟩ := x.lts (b := w.heap.size) (by omega)
          by_cases hlt : j < 4
          · obtain ⟨q0, q1, q2⟩ := hreads j hlt
            obtain ⟨l1, l2, l3, l4, l5⟩ := x.lts hg2
            have HZ := Lib.hid (cand_size (s := s) (by omega) j)
            cases hv : vB ((cands s).getD j Cd.z).k ((cands s).getD j Cd.z).n ((cands s).getD j Cd.z).t
            all_goals
              have HV := Lib.hid hv
              have V1 : Hid (Calls Tryd.prog 12 #[.agg #[.int .i64 ((cands s).getD j Cd.z).k, .int .i64 ((cands s).getD j Cd.z).n, .string ((cands s).getD j Cd.z).t]] x.val fun e w' => e = .returned (.bool _) ∧ Cls x.val w') := Lib.hid (rValid_is _ _ _ _ x.val HZ.out hv)
              clear hv
              go_wp2_with (first | (go_at_call 12; ((refine (Cls.call V1.out).mono ?_); rintro e _ ⟨rfl, y3, rfl⟩)) | (go_at_call 11; ((refine (Cls.call (rText_calls _ _ _ _ HZ.out (HT.out _ (bel_tab bel2 y3)))).mono ?_); rintro e _ ⟨rfl, y4, rfl⟩)))
            · go_roundw
              case rel => exact ⟨j + 1, by omega, by go_num, NoneIn.succ HNO.out (fun h => by have := HV.out; rw [h.1] at this; cases this), y3, rfl⟩
              case measure => simp [RowKit.intOf]; omega
            · refine ret_ex rfl ?_
              simp [results, Tryd.results9, go_sem, r0, r1, r2, hw2]
              refine ⟨.inl ⟨_, _, _, HV.out, eq_text (by assumption), rfl⟩, Cls.of ?_⟩
              repeat first | with_reducible assumption | with_reducible exact Below.refl _ _ | with_reducible refine Below.setCell ?_ (by first | omega | (simp; done) | (simp; omega)) _ | with_reducible refine Below.alloc ?_ (by first | omega | (simp; done) | (simp; omega)) _ | with_reducible refine Below.drew ?_ | with_reducible refine Ext.on _ ?_ (by first | omega | (simp; done) | (simp; omega))
            · go_roundw
              case rel => exact ⟨j + 1, by omega, by go_num, NoneIn.succ HNO.out (fun h => ne_text (by assumption) h.2), y4, rfl⟩
              case measure => simp [RowKit.intOf]; omega
          · go_wp2_with fail
            refine ret_ex rfl ?_
            simp [results, Tryd.results9, go_sem, r0, r1, r2, hw2]
            refine ⟨.inr ⟨NoneIn.all HNO.out (by have := HLL.out; omega), rfl⟩, Cls.of ?_⟩
            repeat first | with_reducible assumption | with_reducible exact Below.refl _ _ | with_reducible refine Below.setCell ?_ (by first | omega | (simp; done) | (simp; omega)) _ | with_reducible refine Below.alloc ?_ (by first | omega | (simp; done) | (simp; omega)) _ | with_reducible refine Below.drew ?_ | with_reducible refine Ext.on _ ?_ (by first | omega | (simp; done) | (simp; omega))

      case true =>
        have HI : Hid ((intC s).cells = [.int .i64 1, .int .i64 (-refNum 0 s.data.toList), .string ⟨#[]⟩]) := Lib.hid (by unfold intC numOf refInt; rw [if_pos (by omega), hn]; rfl)
        clear hn
        go_wp2_with (at_builtin; refine wpList_append_own _ rfl _ _ 40 rfl (w.heap.size + 1) 23 i0 (.agg #[.int .i64 0, .int .i64 0, .string ⟨#[]⟩]) 3 32 Tryd.underlying40 hi hz0 hz1 hz2 rfl (by decide) _ 3 (flatC baseC) rfl (base_own2 y2 _) ⟨y2.val.heap.size + 1, 0, none⟩ 1 1 (intC s).cells rfl rfl (cells_int2 HI.out) (cellsC_one _) (by unfold maxLen; omega) (by omega) (by have := y2.size; simp at this ⊢; omega) ?_; intro v2 w2 hown2 hg2 _; have HO2 := Lib.hid (show w2.ownsRow (w.heap.size + 1) 23 3 v2 4 (flatC (baseC ++ [intC s])) by rw [flatC_append, flatC_single]; exact hown2); have bel2 := bel_grown y2 hg2; clear hown2 hg2)
        have HC : Hid (cands s = (baseC ++ [intC s])) := Lib.hid (by unfold cands; rw [if_neg (by omega)])
        have HLL : Hid ((cands s).length = 4) := Lib.hid (by rw [HC.out]; rfl)
        rw [← HC.out] at HO2
        obtain ⟨g, cap, rfl, hcap, hmax, hg2, hreads⟩ := own_reads HO2.out (by omega)
        clear HO2
        unfold maxLen at hmax
        have r0 : w2.cell? ⟨w.heap.size, 0, none⟩ = some (.int .i64 0) := by rw [bel2.cell (p := ⟨w.heap.size, 0, none⟩) (by simp)]; simp [go_sem]
        have r1 : w2.cell? ⟨w.heap.size, 1, none⟩ = some (.int .i64 0) := by rw [bel2.cell (p := ⟨w.heap.size, 1, none⟩) (by simp)]; simp [go_sem]
        have r2 : w2.cell? ⟨w.heap.size, 2, none⟩ = some (.string ⟨#[]⟩) := by rw [bel2.cell (p := ⟨w.heap.size, 2, none⟩) (by simp)]; simp [go_sem]
        have f0 : w2.frozen? ⟨w.heap.size, 0, none⟩ = false := by rw [bel2.frozen (p := ⟨w.heap.size, 0, none⟩) (by simp)]; simp [go_sem]
        have f1 : w2.frozen? ⟨w.heap.size, 1, none⟩ = false := by rw [bel2.frozen (p := ⟨w.heap.size, 1, none⟩) (by simp)]; simp [go_sem]
        have f2 : w2.frozen? ⟨w.heap.size, 2, none⟩ = false := by rw [bel2.frozen (p := ⟨w.heap.size, 2, none⟩) (by simp)]; simp [go_sem]
        have bw2 : Below w.heap.size w w2 := bel_tab bel2 ⟨w2, Below.refl _ _⟩
        go_wp2_with fail
        go_loopw [8] (fun i wr => ∃ j : Nat, j ≤ 4 ∧ i = .int .i64 j ∧ NoneIn s j ∧ Cls w2 wr) (fun i _ => 4 - (RowKit.intOf i).toNat)
        case atStart => exact ⟨0, Nat.zero_le _, rfl, NoneIn.zero s, Cls.of (Below.refl _ _)⟩
        case round =>
          obtain ⟨j, hj, rfl, hno, x, rfl⟩ := hrel
          have HNO := Lib.hid hno
          clear hno
          have bx := bel2.size
          simp at bx
          have xs := x.size
          have hw2 : w.heap.size < w2.heap.size := by omega
          obtain ⟨m1, m2, _, _, _⟩ := x.lts (b := w.heap.size) (by omega)
          by_cases hlt : j < 4
          · obtain ⟨q0, q1, q2⟩ := hreads j hlt
            obtain ⟨l1, l2, l3, l4, l5⟩ := x.lts hg2
            have HZ := Lib.hid (cand_size (s := s) (by omega) j)
            cases hv : vB ((cands s).getD j Cd.z).k ((cands s).getD j Cd.z).n ((cands s).getD j Cd.z).t
            all_goals
              have HV := Lib.hid hv
              have V1 : Hid (Calls Tryd.prog 12 #[.agg #[.int .i64 ((cands s).getD j Cd.z).k, .int .i64 ((cands s).getD j Cd.z).n, .string ((cands s).getD j Cd.z).t]] x.val fun e w' => e = .returned (.bool _) ∧ Cls x.val w') := Lib.hid (rValid_is _ _ _ _ x.val HZ.out hv)
              clear hv
              go_wp2_with (first | (go_at_call 12; ((refine (Cls.call V1.out).mono ?_); rintro e _ ⟨rfl, y3, rfl⟩)) | (go_at_call 11; ((refine (Cls.call (rText_calls _ _ _ _ HZ.out (HT.out _ (bel_tab bel2 y3)))).mono ?_); rintro e _ ⟨rfl, y4, rfl⟩)))
            · go_roundw
              case rel => exact ⟨j + 1, by omega, by go_num, NoneIn.succ HNO.out (fun h => by have := HV.out; rw [h.1] at this; cases this), y3, rfl⟩
              case measure => simp [RowKit.intOf]; omega
            · refine ret_ex rfl ?_
              simp [results, Tryd.results9, go_sem, r0, r1, r2, hw2]
              refine ⟨.inl ⟨_, _, _, HV.out, eq_text (by assumption), rfl⟩, Cls.of ?_⟩
              repeat first | with_reducible assumption | with_reducible exact Below.refl _ _ | with_reducible refine Below.setCell ?_ (by first | omega | (simp; done) | (simp; omega)) _ | with_reducible refine Below.alloc ?_ (by first | omega | (simp; done) | (simp; omega)) _ | with_reducible refine Below.drew ?_ | with_reducible refine Ext.on _ ?_ (by first | omega | (simp; done) | (simp; omega))
            · go_roundw
              case rel => exact ⟨j + 1, by omega, by go_num, NoneIn.succ HNO.out (fun h => ne_text (by assumption) h.2), y4, rfl⟩
              case measure => simp [RowKit.intOf]; omega
          · go_wp2_with fail
            refine ret_ex rfl ?_
            simp [results, Tryd.results9, go_sem, r0, r1, r2, hw2]
            refine ⟨.inr ⟨NoneIn.all HNO.out (by have := HLL.out; omega), rfl⟩, Cls.of ?_⟩
            repeat first | with_reducible assumption | with_reducible exact Below.refl _ _ | with_reducible refine Below.setCell ?_ (by first | omega | (simp; done) | (simp; omega)) _ | with_reducible refine Below.alloc ?_ (by first | omega | (simp; done) | (simp; omega)) _ | with_reducible refine Below.drew ?_ | with_reducible refine Ext.on _ ?_ (by first | omega | (simp; done) | (simp; omega))


set_option maxHeartbeats 4000000 in
set_option maxRecDepth 100000 in
theorem rParse_mid (s : ByteArray) (w : World) (hs : 2 ≤ s.size) (hs2 : s.size ≤ 14) (htab : Tab w) :
    Calls Tryd.prog 9 #[.string s] w fun e w' => ParseIs s.data.toList e ∧ Cls w w' := by
  obtain ⟨i0, hi, hz0, hz1, hz2⟩ := info_parts infoV
  have HT : Hid (∀ w', Below w.heap.size w w' → Tab w') := Lib.hid (fun w' hw => htab.later hw)
  clear htab
  have hg : decide (2 ≤ (s.size : Int)) = true := by simp; omega
  have hwr : wrap64 ((s.size : Int) - 1) = (s.size : Int) - 1 := by unfold wrap64; omega
  have hsl := fun wx => run_slice_string (P := Tryd.prog) wx 9 s .i64 .i64 1 ((s.size : Int) - 1) Tryd.underlying9 (by omega) (by omega) (by omega)
  have h14 : decide ((s.size : Int) ≤ 14) = true := by simp; omega
  go_enter Tryd.func9, Tryd.ntmps9
  go_wp2_with (first | (go_at_call_of 30 (Value.int .i64 0); ((with_reducible refine (rbool_no _).mono ?_); rintro e _ ⟨rfl, y, rfl⟩)) | (go_at_call 30; ((with_reducible refine (Cls.call (rbool_yes _)).mono ?_); rintro e _ ⟨rfl, y2, rfl⟩)) | (at_builtin; refine wpList_append_own _ rfl _ _ 40 rfl (w.heap.size + 1) 23 i0 (.agg #[.int .i64 0, .int .i64 0, .string ⟨#[]⟩]) 3 32 Tryd.underlying40 hi hz0 hz1 hz2 rfl (by decide) _ 3 (flatC baseC) rfl (base_own2 y2 _) ⟨y2.val.heap.size + 1, 0, none⟩ 1 1 (textC s).cells rfl rfl (cells_new2 _ _ _) (cellsC_one _) (by unfold maxLen; omega) (by omega) (by have := y2.size; simp at this ⊢; omega) ?_; intro v1 w1 hown1 hg1 _; have HO1 := Lib.hid (show w1.ownsRow (w.heap.size + 1) 23 3 v1 4 (flatC (baseC ++ [textC s])) by rw [flatC_append, flatC_single]; exact hown1); have bel1 := bel_grown y2 hg1; clear hown1 hg1))
  go_loop [5, 6, 7] (fun n b i => ∃ j : Nat, j ≤ s.size ∧ n = .int .i64 (refNum 0 (s.data.toList.take j)) ∧ b = .bool (refNeg (s.data.toList.take j)) ∧ i = .int .i64 j) (fun _ _ i => s.size - (RowKit.intOf i).toNat)
  case atStart => exact ⟨0, Nat.zero_le _, rfl, rfl, rfl⟩
  case round =>
    obtain ⟨j, hj, rfl, rfl, rfl⟩ := hrel
    by_cases hlt : j < s.size
    · have hl13 : (s.data.toList.take j).length ≤ 13 := by rw [List.length_take]; omega
      obtain ⟨nb1, nb2⟩ := refNum_bd hl13
      have HN := Lib.hid (refNum_snoc (s.data.toList.take j) s[j] 0)
      have HG := Lib.hid (refNeg_snoc (s.data.toList.take j) s[j])
      have HK := Lib.hid (take_snoc s j hlt)
      clear hl13
      cases hn : refNeg (s.data.toList.take j)
      all_goals
        have HNEG := Lib.hid hn
        clear hn
        go_wp2_with fail
        all_goals
          go_round
          case rel =>
            refine ⟨j + 1, by omega, congrArg (Value.int .i64) ?_, congrArg Value.bool ?_, by go_num⟩
            · rw [HK.out, HN.out]
              first | (rw [if_pos ⟨by omega, by omega⟩]; omega) | rw [if_neg (by omega)]
            · rw [HK.out, HG.out, HNEG.out]
              first | rfl | (rw [Bool.false_or, Bool.eq_iff_iff]; simp; omega)
          case measure => simp [RowKit.intOf]; omega
    · have hjs : j = s.size := by omega
      subst hjs
      have hl : s.data.toList.length = s.size := by rw [Array.length_toList]; rfl
      rw [List.take_of_length_le (by omega)]
      obtain ⟨nb1, nb2⟩ := refNum_bd14 (l := s.data.toList) (by omega)
      clear hl
      cases hn : refNeg s.data.toList
      case false =>
        have HI : Hid ((intC s).cells = [.int .i64 1, .int .i64 (refNum 0 s.data.toList), .string ⟨#[]⟩]) := Lib.hid (by unfold intC numOf refInt; rw [if_pos (by omega), hn]; rfl)
        clear hn
        go_wp2_with (at_builtin; refine wpList_append_own _ rfl _ _ 40 rfl (w.heap.size + 1) 23 i0 (.agg #[.int .i64 0, .int .i64 0, .string ⟨#[]⟩]) 3 32 Tryd.underlying40 hi hz0 hz1 hz2 rfl (by decide) _ 4 (flatC (baseC ++ [textC s])) rfl (own_later HO1.out ((Below.refl _ _).alloc (Nat.le_refl _) _)) ⟨w1.heap.size, 0, none⟩ 1 1 (intC s).cells rfl rfl (cells_int HI.out) (cellsC_one _) (by unfold maxLen; omega) (by omega) (by have := bel1.size; simp at this ⊢; omega) ?_; intro v2 w2 hown2 hg2 _; have HO2 := Lib.hid (show w2.ownsRow (w.heap.size + 1) 23 3 v2 5 (flatC (baseC ++ [textC s] ++ [intC s])) by rw [flatC_append, flatC_single]; exact hown2); have bel2 := bel_grown2 bel1 HO1.out hg2; clear hown2 hg2)
        have HC : Hid (cands s = (baseC ++ [textC s] ++ [intC s])) := Lib.hid (by unfold cands; rw [if_pos (by omega)])
        have HLL : Hid ((cands s).length = 5) := Lib.hid (by rw [HC.out]; rfl)
        rw [← HC.out] at HO2
        obtain ⟨g, cap, rfl, hcap, hmax, hg2, hreads⟩ := own_reads HO2.out (by omega)
        clear HO2
        unfold maxLen at hmax
        have r0 : w2.cell? ⟨w.heap.size, 0, none⟩ = some (.int .i64 0) := by rw [bel2.cell (p := ⟨w.heap.size, 0, none⟩) (by simp)]; simp [go_sem]
        have r1 : w2.cell? ⟨w.heap.size, 1, none⟩ = some (.int .i64 0) := by rw [bel2.cell (p := ⟨w.heap.size, 1, none⟩) (by simp)]; simp [go_sem]
        have r2 : w2.cell? ⟨w.heap.size, 2, none⟩ = some (.string ⟨#[]⟩) := by rw [bel2.cell (p := ⟨w.heap.size, 2, none⟩) (by simp)]; simp [go_sem]
        have f0 : w2.frozen? ⟨w.heap.size, 0, none⟩ = false := by rw [bel2.frozen (p := ⟨w.heap.size, 0, none⟩) (by simp)]; simp [go_sem]
        have f1 : w2.frozen? ⟨w.heap.size, 1, none⟩ = false := by rw [bel2.frozen (p := ⟨w.heap.size, 1, none⟩) (by simp)]; simp [go_sem]
        have f2 : w2.frozen? ⟨w.heap.size, 2, none⟩ = false := by rw [bel2.frozen (p := ⟨w.heap.size, 2, none⟩) (by simp)]; simp [go_sem]
        have bw2 : Below w.heap.size w w2 := bel_tab bel2 ⟨w2, Below.refl _ _⟩
        go_wp2_with fail
        go_loopw [8] (fun i wr => ∃ j : Nat, j ≤ 5 ∧ i = .int .i64 j ∧ NoneIn s j ∧ Cls w2 wr) (fun i _ => 5 - (RowKit.intOf i).toNat)
        case atStart => exact ⟨0, Nat.zero_le _, rfl, NoneIn.zero s, Cls.of (Below.refl _ _)⟩
        case round =>
          obtain ⟨j, hj, rfl, hno, x, rfl⟩ := hrel
          have HNO := Lib.hid hno
          clear hno
          have bx := bel2.size
          simp at bx
          have xs := x.size
          have hw2 : w.heap.size < w2.heap.size := by omega
          obtain ⟨m1, m2, _, _, _⟩ := x.lts (b := w.heap.size) (by omega)
          by_cases hlt : j < 5
          · obtain ⟨q0, q1, q2⟩ := hreads j hlt
            obtain ⟨l1, l2, l3, l4, l5⟩ := x.lts hg2
            have HZ := Lib.hid (cand_size (s := s) (by omega) j)
            cases hv : vB ((cands s).getD j Cd.z).k ((cands s).getD j Cd.z).n ((cands s).getD j Cd.z).t
            all_goals
              have HV := Lib.hid hv
              have V1 : Hid (Calls Tryd.prog 12 #[.agg #[.int .i64 ((cands s).getD j Cd.z).k, .int .i64 ((cands s).getD j Cd.z).n, .string ((cands s).getD j Cd.z).t]] x.val fun e w' => e = .returned (.bool _) ∧ Cls x.val w') := Lib.hid (rValid_is _ _ _ _ x.val HZ.out hv)
              clear hv
              go_wp2_with (first | (go_at_call 12; ((refine (Cls.call V1.out).mono ?_); rintro e _ ⟨rfl, y3, rfl⟩)) | (go_at_call 11; ((refine (Cls.call (rText_calls _ _ _ _ HZ.out (HT.out _ (bel_tab bel2 y3)))).mono ?_); rintro e _ ⟨rfl, y4, rfl⟩)))
            · go_roundw
              case rel => exact ⟨j + 1, by omega, by go_num, NoneIn.succ HNO.out (fun h => by have := HV.out; rw [h.1] at this; cases this), y3, rfl⟩
              case measure => simp [RowKit.intOf]; omega
            · refine ret_ex rfl ?_
              simp [results, Tryd.results9, go_sem, r0, r1, r2, hw2]
              refine ⟨.inl ⟨_, _, _, HV.out, eq_text (by assumption), rfl⟩, Cls.of ?_⟩
              repeat first | with_reducible assumption | with_reducible exact Below.refl _ _ | with_reducible refine Below.setCell ?_ (by first | omega | (simp; done) | (simp; omega)) _ | with_reducible refine Below.alloc ?_ (by first | omega | (simp; done) | (simp; omega)) _ | with_reducible refine Below.drew ?_ | with_reducible refine Ext.on _ ?_ (by first | omega | (simp; done) | (simp; omega))
            · go_roundw
              case rel => exact ⟨j + 1, by omega, by go_num, NoneIn.succ HNO.out (fun h => ne_text (by assumption) h.2), y4, rfl⟩
              case measure => simp [RowKit.intOf]; omega
          · go_wp2_with fail
            refine ret_ex rfl ?_
            simp [results, Tryd.results9, go_sem, r0, r1, r2, hw2]
            refine ⟨.inr ⟨NoneIn.all HNO.out (by have := HLL.out; omega), rfl⟩, Cls.of ?_⟩
            repeat first | with_reducible assumption | with_reducible exact Below.refl _ _ | with_reducible refine Below.setCell ?_ (by first | omega | (simp; done) | (simp; omega)) _ | with_reducible refine Below.alloc ?_ (by first | omega | (simp; done) | (simp; omega)) _ | with_reducible refine Below.drew ?_ | with_reducible refine Ext.on _ ?_ (by first | omega | (simp; done) | (simp; omega))

      case true =>
        have HI : Hid ((intC s).cells = [.int .i64 1, .int .i64 (-refNum 0 s.data.toList), .string ⟨#[]⟩]) := Lib.hid (by unfold intC numOf refInt; rw [if_pos (by omega), hn]; rfl)
        clear hn
        go_wp2_with (at_builtin; refine wpList_append_own _ rfl _ _ 40 rfl (w.heap.size + 1) 23 i0 (.agg #[.int .i64 0, .int .i64 0, .string ⟨#[]⟩]) 3 32 Tryd.underlying40 hi hz0 hz1 hz2 rfl (by decide) _ 4 (flatC (baseC ++ [textC s])) rfl (own_later HO1.out ((Below.refl _ _).alloc (Nat.le_refl _) _)) ⟨w1.heap.size, 0, none⟩ 1 1 (intC s).cells rfl rfl (cells_int HI.out) (cellsC_one _) (by unfold maxLen; omega) (by omega) (by have := bel1.size; simp at this ⊢; omega) ?_; intro v2 w2 hown2 hg2 _; have HO2 := Lib.hid (show w2.ownsRow (w.heap.size + 1) 23 3 v2 5 (flatC (baseC ++ [textC s] ++ [intC s])) by rw [flatC_append, flatC_single]; exact hown2); have bel2 := bel_grown2 bel1 HO1.out hg2; clear hown2 hg2)
        have HC : Hid (cands s = (baseC ++ [textC s] ++ [intC s])) := Lib.hid (by unfold cands; rw [if_pos (by omega)])
        have HLL : Hid ((cands s).length = 5) := Lib.hid (by rw [HC.out]; rfl)
        rw [← HC.out] at HO2
        obtain ⟨g, cap, rfl, hcap, hmax, hg2, hreads⟩ := own_reads HO2.out (by omega)
        clear HO2
        unfold maxLen at hmax
        have r0 : w2.cell? ⟨w.heap.size, 0, none⟩ = some (.int .i64 0) := by rw [bel2.cell (p := ⟨w.heap.size, 0, none⟩) (by simp)]; simp [go_sem]
        have r1 : w2.cell? ⟨w.heap.size, 1, none⟩ = some (.int .i64 0) := by rw [bel2.cell (p := ⟨w.heap.size, 1, none⟩) (by simp)]; simp [go_sem]
        have r2 : w2.cell? ⟨w.heap.size, 2, none⟩ = some (.string ⟨#[]⟩) := by rw [bel2.cell (p := ⟨w.heap.size, 2, none⟩) (by simp)]; simp [go_sem]
        have f0 : w2.frozen? ⟨w.heap.size, 0, none⟩ = false := by rw [bel2.frozen (p := ⟨w.heap.size, 0, none⟩) (by simp)]; simp [go_sem]
        have f1 : w2.frozen? ⟨w.heap.size, 1, none⟩ = false := by rw [bel2.frozen (p := ⟨w.heap.size, 1, none⟩) (by simp)]; simp [go_sem]
        have f2 : w2.frozen? ⟨w.heap.size, 2, none⟩ = false := by rw [bel2.frozen (p := ⟨w.heap.size, 2, none⟩) (by simp)]; simp [go_sem]
        have bw2 : Below w.heap.size w w2 := bel_tab bel2 ⟨w2, Below.refl _ _⟩
        go_wp2_with fail
        go_loopw [8] (fun i wr => ∃ j : Nat, j ≤ 5 ∧ i = .int .i64 j ∧ NoneIn s j ∧ Cls w2 wr) (fun i _ => 5 - (RowKit.intOf i).toNat)
        case atStart => exact ⟨0, Nat.zero_le _, rfl, NoneIn.zero s, Cls.of (Below.refl _ _)⟩
        case round =>
          obtain ⟨j, hj, rfl, hno, x, rfl⟩ := hrel
          have HNO := Lib.hid hno
          clear hno
          have bx := bel2.size
          simp at bx
          have xs := x.size
          have hw2 : w.heap.size < w2.heap.size := by omega
          obtain ⟨m1, m2, _, _, _⟩ := x.lts (b := w.heap.size) (by omega)
          by_cases hlt : j < 5
          · obtain ⟨q0, q1, q2⟩ := hreads j hlt
            obtain ⟨l1, l2, l3, l4, l5⟩ := x.lts hg2
            have HZ := Lib.hid (cand_size (s := s) (by omega) j)
            cases hv : vB ((cands s).getD j Cd.z).k ((cands s).getD j Cd.z).n ((cands s).getD j Cd.z).t
            all_goals
              have HV := Lib.hid hv
              have V1 : Hid (Calls Tryd.prog 12 #[.agg #[.int .i64 ((cands s).getD j Cd.z).k, .int .i64 ((cands s).getD j Cd.z).n, .string ((cands s).getD j Cd.z).t]] x.val fun e w' => e = .returned (.bool _) ∧ Cls x.val w') := Lib.hid (rValid_is _ _ _ _ x.val HZ.out hv)
              clear hv
              go_wp2_with (first | (go_at_call 12; ((refine (Cls.call V1.out).mono ?_); rintro e _ ⟨rfl, y3, rfl⟩)) | (go_at_call 11; ((refine (Cls.call (rText_calls _ _ _ _ HZ.out (HT.out _ (bel_tab bel2 y3)))).mono ?_); rintro e _ ⟨rfl, y4, rfl⟩)))
            · go_roundw
              case rel => exact ⟨j + 1, by omega, by go_num, NoneIn.succ HNO.out (fun h => by have := HV.out; rw [h.1] at this; cases this), y3, rfl⟩
              case measure => simp [RowKit.intOf]; omega
            · refine ret_ex rfl ?_
              simp [results, Tryd.results9, go_sem, r0, r1, r2, hw2]
              refine ⟨.inl ⟨_, _, _, HV.out, eq_text (by assumption), rfl⟩, Cls.of ?_⟩
              repeat first | with_reducible assumption | with_reducible exact Below.refl _ _ | with_reducible refine Below.setCell ?_ (by first | omega | (simp; done) | (simp; omega)) _ | with_reducible refine Below.alloc ?_ (by first | omega | (simp; done) | (simp; omega)) _ | with_reducible refine Below.drew ?_ | with_reducible refine Ext.on _ ?_ (by first | omega | (simp; done) | (simp; omega))
            · go_roundw
              case rel => exact ⟨j + 1, by omega, by go_num, NoneIn.succ HNO.out (fun h => ne_text (by assumption) h.2), y4, rfl⟩
              case measure => simp [RowKit.intOf]; omega
          · go_wp2_with fail
            refine ret_ex rfl ?_
            simp [results, Tryd.results9, go_sem, r0, r1, r2, hw2]
            refine ⟨.inr ⟨NoneIn.all HNO.out (by have := HLL.out; omega), rfl⟩, Cls.of ?_⟩
            repeat first | with_reducible assumption | with_reducible exact Below.refl _ _ | with_reducible refine Below.setCell ?_ (by first | omega | (simp; done) | (simp; omega)) _ | with_reducible refine Below.alloc ?_ (by first | omega | (simp; done) | (simp; omega)) _ | with_reducible refine Below.drew ?_ | with_reducible refine Ext.on _ ?_ (by first | omega | (simp; done) | (simp; omega))


set_option maxHeartbeats 4000000 in
set_option maxRecDepth 100000 in
theorem rParse_long (s : ByteArray) (w : World) (hs : 14 < s.size) (hs2 : s.size ≤ 200) (htab : Tab w) :
    Calls Tryd.prog 9 #[.string s] w fun e w' => ParseIs s.data.toList e ∧ Cls w w' := by
  obtain ⟨i0, hi, hz0, hz1, hz2⟩ := info_parts infoV
  have HT : Hid (∀ w', Below w.heap.size w w' → Tab w') := Lib.hid (fun w' hw => htab.later hw)
  clear htab
  have hg : decide (2 ≤ (s.size : Int)) = true := by simp; omega
  have hwr : wrap64 ((s.size : Int) - 1) = (s.size : Int) - 1 := by unfold wrap64; omega
  have hsl := fun wx => run_slice_string (P := Tryd.prog) wx 9 s .i64 .i64 1 ((s.size : Int) - 1) Tryd.underlying9 (by omega) (by omega) (by omega)
  have h14 : decide ((s.size : Int) ≤ 14) = false := by simp; omega
  go_enter Tryd.func9, Tryd.ntmps9
  go_wp2_with (first | (go_at_call_of 30 (Value.int .i64 0); ((with_reducible refine (rbool_no _).mono ?_); rintro e _ ⟨rfl, y, rfl⟩)) | (go_at_call 30; ((with_reducible refine (Cls.call (rbool_yes _)).mono ?_); rintro e _ ⟨rfl, y2, rfl⟩)) | (at_builtin; refine wpList_append_own _ rfl _ _ 40 rfl (w.heap.size + 1) 23 i0 (.agg #[.int .i64 0, .int .i64 0, .string ⟨#[]⟩]) 3 32 Tryd.underlying40 hi hz0 hz1 hz2 rfl (by decide) _ 3 (flatC baseC) rfl (base_own2 y2 _) ⟨y2.val.heap.size + 1, 0, none⟩ 1 1 (textC s).cells rfl rfl (cells_new2 _ _ _) (cellsC_one _) (by unfold maxLen; omega) (by omega) (by have := y2.size; simp at this ⊢; omega) ?_; intro v1 w1 hown1 hg1 _; have HO1 := Lib.hid (show w1.ownsRow (w.heap.size + 1) 23 3 v1 4 (flatC (baseC ++ [textC s])) by rw [flatC_append, flatC_single]; exact hown1); have bel1 := bel_grown y2 hg1; clear hown1 hg1))
  go_loop [5, 6, 7] (fun n b i => n = .int .i64 0 ∧ b = .bool false ∧ i = .int .i64 0) (fun _ _ i => 0)
  case atStart => exact ⟨rfl, rfl, rfl⟩
  case round =>
    obtain ⟨rfl, rfl, rfl⟩ := hrel
    have HI : Hid ((intC s).cells = [.int .i64 1, .int .i64 0, .string ⟨#[]⟩]) := Lib.hid (by unfold intC numOf; rw [if_neg (by omega)]; rfl)
    go_wp2_with (at_builtin; refine wpList_append_own _ rfl _ _ 40 rfl (w.heap.size + 1) 23 i0 (.agg #[.int .i64 0, .int .i64 0, .string ⟨#[]⟩]) 3 32 Tryd.underlying40 hi hz0 hz1 hz2 rfl (by decide) _ 4 (flatC (baseC ++ [textC s])) rfl (own_later HO1.out ((Below.refl _ _).alloc (Nat.le_refl _) _)) ⟨w1.heap.size, 0, none⟩ 1 1 (intC s).cells rfl rfl (cells_int HI.out) (cellsC_one _) (by unfold maxLen; omega) (by omega) (by have := bel1.size; simp at this ⊢; omega) ?_; intro v2 w2 hown2 hg2 _; have HO2 := Lib.hid (show w2.ownsRow (w.heap.size + 1) 23 3 v2 5 (flatC (baseC ++ [textC s] ++ [intC s])) by rw [flatC_append, flatC_single]; exact hown2); have bel2 := bel_grown2 bel1 HO1.out hg2; clear hown2 hg2)
    have HC : Hid (cands s = (baseC ++ [textC s] ++ [intC s])) := Lib.hid (by unfold cands; rw [if_pos (by omega)])
    have HLL : Hid ((cands s).length = 5) := Lib.hid (by rw [HC.out]; rfl)
    rw [← HC.out] at HO2
    obtain ⟨g, cap, rfl, hcap, hmax, hg2, hreads⟩ := own_reads HO2.out (by omega)
    clear HO2
    unfold maxLen at hmax
    have r0 : w2.cell? ⟨w.heap.size, 0, none⟩ = some (.int .i64 0) := by rw [bel2.cell (p := ⟨w.heap.size, 0, none⟩) (by simp)]; simp [go_sem]
    have r1 : w2.cell? ⟨w.heap.size, 1, none⟩ = some (.int .i64 0) := by rw [bel2.cell (p := ⟨w.heap.size, 1, none⟩) (by simp)]; simp [go_sem]
    have r2 : w2.cell? ⟨w.heap.size, 2, none⟩ = some (.string ⟨#[]⟩) := by rw [bel2.cell (p := ⟨w.heap.size, 2, none⟩) (by simp)]; simp [go_sem]
    have f0 : w2.frozen? ⟨w.heap.size, 0, none⟩ = false := by rw [bel2.frozen (p := ⟨w.heap.size, 0, none⟩) (by simp)]; simp [go_sem]
    have f1 : w2.frozen? ⟨w.heap.size, 1, none⟩ = false := by rw [bel2.frozen (p := ⟨w.heap.size, 1, none⟩) (by simp)]; simp [go_sem]
    have f2 : w2.frozen? ⟨w.heap.size, 2, none⟩ = false := by rw [bel2.frozen (p := ⟨w.heap.size, 2, none⟩) (by simp)]; simp [go_sem]
    have bw2 : Below w.heap.size w w2 := bel_tab bel2 ⟨w2, Below.refl _ _⟩
    go_wp2_with fail
    go_loopw [8] (fun i wr => ∃ j : Nat, j ≤ 5 ∧ i = .int .i64 j ∧ NoneIn s j ∧ Cls w2 wr) (fun i _ => 5 - (RowKit.intOf i).toNat)
    case atStart => exact ⟨0, Nat.zero_le _, rfl, NoneIn.zero s, Cls.of (Below.refl _ _)⟩
    case round =>
      obtain ⟨j, hj, rfl, hno, x, rfl⟩ := hrel
      have HNO := Lib.hid hno
      clear hno
      have bx := bel2.size
      simp at bx
      have xs := x.size
      have hw2 : w.heap.size < w2.heap.size := by omega
      obtain ⟨m1, m2, _, _, _⟩ := x.lts (b := w.heap.size) (by omega)
      by_cases hlt : j < 5
      · obtain ⟨q0, q1, q2⟩ := hreads j hlt
        obtain ⟨l1, l2, l3, l4, l5⟩ := x.lts hg2
        have HZ := Lib.hid (cand_size (s := s) (by omega) j)
        cases hv : vB ((cands s).getD j Cd.z).k ((cands s).getD j Cd.z).n ((cands s).getD j Cd.z).t
        all_goals
          have HV := Lib.hid hv
          have V1 : Hid (Calls Tryd.prog 12 #[.agg #[.int .i64 ((cands s).getD j Cd.z).k, .int .i64 ((cands s).getD j Cd.z).n, .string ((cands s).getD j Cd.z).t]] x.val fun e w' => e = .returned (.bool _) ∧ Cls x.val w') := Lib.hid (rValid_is _ _ _ _ x.val HZ.out hv)
          clear hv
          go_wp2_with (first | (go_at_call 12; ((refine (Cls.call V1.out).mono ?_); rintro e _ ⟨rfl, y3, rfl⟩)) | (go_at_call 11; ((refine (Cls.call (rText_calls _ _ _ _ HZ.out (HT.out _ (bel_tab bel2 y3)))).mono ?_); rintro e _ ⟨rfl, y4, rfl⟩)))
        · go_roundw
          case rel => exact ⟨j + 1, by omega, by go_num, NoneIn.succ HNO.out (fun h => by have := HV.out; rw [h.1] at this; cases this), y3, rfl⟩
          case measure => simp [RowKit.intOf]; omega
        · refine ret_ex rfl ?_
          simp [results, Tryd.results9, go_sem, r0, r1, r2, hw2]
          refine ⟨.inl ⟨_, _, _, HV.out, eq_text (by assumption), rfl⟩, Cls.of ?_⟩
          repeat first | with_reducible assumption | with_reducible exact Below.refl _ _ | with_reducible refine Below.setCell ?_ (by first | omega | (simp; done) | (simp; omega)) _ | with_reducible refine Below.alloc ?_ (by first | omega | (simp; done) | (simp; omega)) _ | with_reducible refine Below.drew ?_ | with_reducible refine Ext.on _ ?_ (by first | omega | (simp; done) | (simp; omega))
        · go_roundw
          case rel => exact ⟨j + 1, by omega, by go_num, NoneIn.succ HNO.out (fun h => ne_text (by assumption) h.2), y4, rfl⟩
          case measure => simp [RowKit.intOf]; omega
      · go_wp2_with fail
        refine ret_ex rfl ?_
        simp [results, Tryd.results9, go_sem, r0, r1, r2, hw2]
        refine ⟨.inr ⟨NoneIn.all HNO.out (by have := HLL.out; omega), rfl⟩, Cls.of ?_⟩
        repeat first | with_reducible assumption | with_reducible exact Below.refl _ _ | with_reducible refine Below.setCell ?_ (by first | omega | (simp; done) | (simp; omega)) _ | with_reducible refine Below.alloc ?_ (by first | omega | (simp; done) | (simp; omega)) _ | with_reducible refine Below.drew ?_ | with_reducible refine Ext.on _ ?_ (by first | omega | (simp; done) | (simp; omega))


theorem rParse_calls (s : ByteArray) (w : World) (hs : s.size ≤ 200) (htab : Tab w) :
    Calls Tryd.prog 9 #[.string s] w fun e w' => ParseIs s.data.toList e ∧ Cls w w' := by
  rcases Nat.lt_or_ge s.size 2 with h | h
  · exact rParse_short s w h htab
  · rcases Nat.lt_or_ge 14 s.size with h' | h'
    · exact rParse_long s w h' hs htab
    · exact rParse_mid s w h h' htab
end Go.Proofs.YtmjaieceknhnbaaDoor
