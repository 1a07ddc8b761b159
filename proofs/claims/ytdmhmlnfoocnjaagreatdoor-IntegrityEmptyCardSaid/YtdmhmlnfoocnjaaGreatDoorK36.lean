/-
  What holds of a schema without an error.
-/
import Derived.Test.YtdmhmlnfoocnjaaGreatDoorK25
import Derived.Test.YtdmhmlnfoocnjaaGreatDoorK27
import Derived.Test.YtdmhmlnfoocnjaaGreatDoorK35
import Derived.Test.YtdmhmlnfoocnjaaGreatDoorK26
import Derived.Test.YtdmhmlnfoocnjaaGreatDoorK12
import Derived.Test.YtdmhmlnfoocnjaaGreatDoorK17
import Derived.Maps.AppendAt
import Derived.Laws.AppendOwnNone
set_option linter.unusedVariables false
namespace Go.Proofs.YtdmhmlnfoocnjaaGreatDoor
open Go Go.RowKit Go.Deep
theorem pigeon : ∀ (n len : Nat) (f : Nat → Nat), (∀ i, i < len → f i < n) → (∀ i j, i < j → j < len → f i ≠ f j) → len ≤ n
  | 0, len, f, h1, _ => by
    rcases Nat.eq_zero_or_pos len with h | h
    · omega
    · exact absurd (h1 0 h) (Nat.not_lt_zero _)
  | n + 1, len, f, h1, h2 => by
    by_cases h : ∃ i, i < len ∧ f i = n
    · obtain ⟨i0, hi0, he⟩ := h
      have := pigeon n (len - 1) (fun j => if j < i0 then f j else f (j + 1)) (fun j hj => by
        show (if j < i0 then f j else f (j + 1)) < n
        split
        · rename_i hj2
          have h3 := h1 j (by omega)
          have h4 := h2 j i0 hj2 hi0
          omega
        · rename_i hj2
          have h3 := h1 (j + 1) (by omega)
          have h4 := h2 i0 (j + 1) (by omega) (by omega)
          omega) (fun a b hab hb => by
        show (if a < i0 then f a else f (a + 1)) ≠ (if b < i0 then f b else f (b + 1))
        split <;> split
        · exact h2 a b hab (by omega)
        · exact h2 a (b + 1) (by omega) (by omega)
        · omega
        · exact h2 (a + 1) (b + 1) (by omega) (by omega))
      omega
    · have := pigeon n len f (fun i hi => by
        have h3 := h1 i hi
        rcases Nat.lt_or_ge (f i) n with h4 | h4
        · exact h4
        · exact absurd ⟨i, hi, by omega⟩ h) h2
      omega
theorem keyB_len {n len : Nat} {f : Nat → Int} (h : keyB n f len = true) : len ≤ n := by
  have hin := keyB_in h
  unfold keyB at h
  simp only [Bool.and_eq_true, decide_eq_true_eq] at h
  have h1 := (idx_none len 0).1 h.1
  refine pigeon n len (fun i => (f i).toNat) (fun i hi => by have := hin i hi; show (f i).toNat < n; omega) fun i j hij hj => ?_
  have h2 := h1 j (Nat.zero_le _) (by omega)
  unfold badK at h2
  simp only [Bool.or_eq_false_iff, decide_eq_false_iff_not] at h2
  have h3 := (idx_none (p := sameP f (f j)) j 0).1 (by omega) i (Nat.zero_le _) (by omega)
  unfold sameP at h3
  have h4 : ¬ f j = f i := by simpa using h3
  have h5 := hin i (by omega)
  have h6 := hin j hj
  show (f i).toNat ≠ (f j).toNat
  omega
theorem vtE_ok {sl : Sl} {tb : Nat → Tb} {g : Nat → Nat → Int × Int} (h : fstE (vtE sl tb g) 0 sl.len = 0) {i : Nat} (hi : i < sl.len) : keyE (tb i) = 0 ∧ (tb i).cs.len ≤ 8 ∧ (tb i).us.len ≤ 3 ∧ (tb i).fs.len ≤ 3 ∧ (tb i).ks.len ≤ 4 ∧ (tb i).cs.len ≠ 0 := by
  have h1 := fstE_of _ _ h i (Nat.zero_le _) (by omega)
  have h2 := vtE_is sl tb g i
  by_cases hn : nameE (tb i).name (decide (at0 (idx (nameP tb (tb i).name) 0 sl.len) < i)) = 0
  · rw [h2.1 hn] at h1
    have h3 := tableE_is (tb i) (g i)
    by_cases h4 : 8 < (tb i).cs.len ∨ 3 < (tb i).us.len ∨ 3 < (tb i).fs.len ∨ 4 < (tb i).ks.len
    · rw [h3.1 h4] at h1
      cases h1
    · obtain ⟨h5, h6⟩ := h3.2 h4
      by_cases h7 : (tb i).cs.len = 0
      · rw [h5 h7] at h1
        cases h1
      · obtain ⟨h8, h9⟩ := h6 h7
        by_cases h10 : colE (tb i) = 0
        · obtain ⟨h11, h12⟩ := h9 h10
          by_cases h13 : keyE (tb i) = 0
          · exact ⟨h13, by omega, by omega, by omega, by omega, h7⟩
          · rw [h11 h13] at h1
            exact absurd h1 h13
        · rw [h8 h10] at h1
          exact absurd h1 h10
  · rw [h2.2 hn] at h1
    exact absurd h1 hn
def ColsOk (n : Nat) (g : Nat → Int) (c : Nat) : Prop := c ≤ 8 ∧ ∀ i, i < c → 0 ≤ g i ∧ g i < n
structure TbOk (sl : Sl) (tb : Nat → Tb) (i : Nat) : Prop where
  cs : (tb i).cs.len ≤ 8
  us : (tb i).us.len ≤ 3
  fs : (tb i).fs.len ≤ 3
  ks : (tb i).ks.len ≤ 4
  prim : ColsOk (tb i).cs.len (tb i).prim (tb i).ps.len
  uqs : ∀ k, k < (tb i).us.len → ColsOk (tb i).cs.len ((tb i).uqn k) ((tb i).uq k).len
  fks : ∀ k, k < (tb i).fs.len → ColsOk (tb i).cs.len ((tb i).fkn k) ((tb i).fk k).len
  tgt : ∀ k, k < (tb i).fs.len → tgtB sl tb (i : Nat) (k : Nat) = true ∧ tgN sl tb i k < sl.len ∧ ((tb i).fk k).len = (tb (tgN sl tb i k)).ps.len
theorem valid_ok {sl : Sl} {tb : Nat → Tb} {g : Nat → Nat → Int × Int} (h : validE sl tb g = 0) : sl.len ≤ 6 ∧ ∀ i, i < sl.len → TbOk sl tb i := by
  have hv := validE_is sl tb g
  by_cases h6 : 6 < sl.len
  · rw [hv.1 h6] at h; cases h
  obtain ⟨h1, h2⟩ := hv.2 h6
  by_cases h3 : fstE (vtE sl tb g) 0 sl.len = 0
  · obtain ⟨h4, _⟩ := h2 h3
    by_cases h5 : tgtE sl tb = 0
    · refine ⟨by omega, fun i hi => ?_⟩
      obtain ⟨k0, k1, k2, k3, k4, k5⟩ := vtE_ok h3 hi
      obtain ⟨m0, m1, m2⟩ := keyE_ok k0
      have ok : ∀ {g : Nat → Int} {c : Nat}, keyB (tb i).cs.len g c = true → ColsOk (tb i).cs.len g c := fun {g c} hk => ⟨by have := keyB_len hk; omega, keyB_in hk⟩
      refine ⟨k1, k2, k3, k4, ok m0, fun k hk => ok (m1 k hk), fun k hk => ok (m2 k hk), fun k hk => ?_⟩
      have ht := tgtE_all h5 i hi k hk
      refine ⟨ht, tg_lt ht, ?_⟩
      have e1 := fstE_of _ _ h5 i (Nat.zero_le _) (by omega)
      have e2 := fstE_of _ _ e1 k (Nat.zero_le _) (by omega)
      obtain ⟨_, _, e3⟩ := tgtE1_is sl tb i k
      cases hb : fksB (tb i) (tb (tgN sl tb i k)) ((tb i).fkn k) (tb (tgN sl tb i k)).prim ((tb i).fk k).len (tb (tgN sl tb i k)).ps.len
      · rw [e3 ht hb] at e2; cases e2
      · unfold fksB at hb
        simp only [Bool.and_eq_true, decide_eq_true_eq] at hb
        exact hb.1
    · rw [h4 h5] at h
      exact absurd h h5
  · rw [h1 h3] at h
    exact absurd h h3
theorem idx_upto {p : Nat → Bool} {n len : Nat} (hn : n < len) (hp : p n = true) : (0 ≤ idx p 0 n → idx p 0 len = idx p 0 n) ∧ (idx p 0 n < 0 → idx p 0 len = n) := by
  refine ⟨fun h => ?_, fun h => ?_⟩
  · obtain ⟨m, hm⟩ : ∃ m : Nat, idx p 0 n = m := ⟨(idx p 0 n).toNat, by omega⟩
    have h1 := idx_bd p n 0
    have h2 := idx_good n 0 h
    rw [hm] at h2
    rw [hm]
    refine idx_first len 0 m (Nat.zero_le _) (by omega) (by simpa using h2) fun i _ hi => ?_
    cases hpi : p i
    · rfl
    · have := idx_le n 0 i (Nat.zero_le _) (by omega) hpi
      omega
  · exact idx_first len 0 n (Nat.zero_le _) (by omega) hp fun i _ hi => (idx_none n 0).1 h i (Nat.zero_le _) (by omega)
theorem idx_nextB (p : Nat → Bool) (n : Nat) : (p n = true → idx p 0 n < 0 → idx p 0 (n + 1) = n) ∧ (0 ≤ idx p 0 n → idx p 0 (n + 1) = idx p 0 n) ∧ (p n = false → idx p 0 (n + 1) = idx p 0 n) := by
  refine ⟨fun h h2 => (idx_upto (Nat.lt_succ_self n) h).2 h2, fun h => ?_, fun h => ?_⟩
  · obtain ⟨m, hm⟩ : ∃ m : Nat, idx p 0 n = m := ⟨(idx p 0 n).toNat, by omega⟩
    have h1 := idx_bd p n 0
    have h2 := idx_good n 0 h
    rw [hm] at h2
    rw [hm]
    refine idx_first (n + 1) 0 m (Nat.zero_le _) (by omega) (by simpa using h2) fun i _ hi => ?_
    cases hpi : p i
    · rfl
    · have := idx_le n 0 i (Nat.zero_le _) (by omega) hpi
      omega
  · by_cases h0 : 0 ≤ idx p 0 n
    · obtain ⟨m, hm⟩ : ∃ m : Nat, idx p 0 n = m := ⟨(idx p 0 n).toNat, by omega⟩
      have h1 := idx_bd p n 0
      have h2 := idx_good n 0 h0
      rw [hm] at h2
      rw [hm]
      refine idx_first (n + 1) 0 m (Nat.zero_le _) (by omega) (by simpa using h2) fun i _ hi => ?_
      cases hpi : p i
      · rfl
      · have := idx_le n 0 i (Nat.zero_le _) (by omega) hpi
        omega
    · have h3 : idx p 0 (n + 1) < 0 := (idx_none (n + 1) 0).2 fun i _ hi => by
        rcases Nat.lt_or_ge i n with h4 | h4
        · exact (idx_none n 0).1 (by omega) i (Nat.zero_le _) (by omega)
        · obtain rfl : i = n := by omega
          exact h
      have h4 := (idx_bd p (n + 1) 0).1
      have h5 := (idx_bd p n 0).1
      omega
end Go.Proofs.YtdmhmlnfoocnjaaGreatDoor
set_option linter.unusedVariables false
namespace Go.Proofs.YtdmhmlnfoocnjaaGreatDoor
open Go Go.RowKit Go.Deep Go.Maps
theorem flatP_len {c : Nat} {l : List Vl} (h : FineK c l) : (flatK (padK l)).length = 24 := by rw [flatK_len, padK_len h]
section
variable {ops : Array Oper} {rest : List Oper} {o : Oper} {a : Act} {Q : Exit → Act → World → Prop}
theorem wpList_newK (X : World) (hgd : o.guard = none) (x y : Operand) (ho : o.op = .store 151 x y) {c : Nat} {l : List Vl} (hl : FineK c l) (hx : a.eval x = .pointer (some ⟨X.heap.size, 0, none⟩)) (hy : a.eval y = keyV l)
    (h : wpList Tryz.prog ops Q rest (a.put o.dst undef) (X.alloc (.cells (flatK (padK l)).toArray 151))) :
    wpList Tryz.prog ops Q (o :: rest) a (X.alloc (.cells #[.int .i64 0, .int .i64 0, .string ⟨#[]⟩, .int .i64 0, .int .i64 0, .string ⟨#[]⟩, .int .i64 0, .int .i64 0, .string ⟨#[]⟩, .int .i64 0, .int .i64 0, .string ⟨#[]⟩, .int .i64 0, .int .i64 0, .string ⟨#[]⟩, .int .i64 0, .int .i64 0, .string ⟨#[]⟩, .int .i64 0, .int .i64 0, .string ⟨#[]⟩, .int .i64 0, .int .i64 0, .string ⟨#[]⟩] 151)) := by
  refine wpList_plain hgd fun K' hK' => ?_
  have hrun := run_storeAt_new (P := Tryz.prog) X 151 #[.int .i64 0, .int .i64 0, .string ⟨#[]⟩, .int .i64 0, .int .i64 0, .string ⟨#[]⟩, .int .i64 0, .int .i64 0, .string ⟨#[]⟩, .int .i64 0, .int .i64 0, .string ⟨#[]⟩, .int .i64 0, .int .i64 0, .string ⟨#[]⟩, .int .i64 0, .int .i64 0, .string ⟨#[]⟩, .int .i64 0, .int .i64 0, .string ⟨#[]⟩, .int .i64 0, .int .i64 0, .string ⟨#[]⟩] (flatK (padK l)).toArray (by rw [List.size_toArray, flatP_len hl]; exact infoK) (by show (24 : Nat) = _; rw [List.size_toArray, flatP_len hl]) (Array.all_eq_true_iff_forall_mem.2 fun u hu => flatK_one _ u (by simpa using hu))
  unfold Oper.wp execOp
  simp only [ho, hx, hy, keyV, Sem.run_bind, hrun, Result.andThen_ok]
  exact hK' _ _ h
theorem wpList_loadK {w : World} (hgd : o.guard = none) (x : Operand) (ho : o.op = .load 151 x) {c : Nat} {l : List Vl} (hl : FineK c l) (b : Nat) (hx : a.eval x = .pointer (some ⟨b, 0, none⟩)) (hb : w.heap[b]? = some (.cells (flatK (padK l)).toArray 151))
    (h : wpList Tryz.prog ops Q rest (a.put o.dst (keyV l)) w) : wpList Tryz.prog ops Q (o :: rest) a w :=
  wpList_load_mid hgd 151 x ho b 0 hx (flatK (padK l)) _ (fun j v hv => by
    rw [cell_of_row _ _ _ _ _ (0, 0) hb, Nat.zero_add]
    simpa using hv) Tryz.underlying151 rfl (by rw [flatP_len hl]; exact infoK) h
end
theorem fineK_row {w : World} {s : Sl} {r : Nat → Sl} {f : Nat → Nat → Vl} (h : RwsAt w s r f) {g : Nat → Int} {c n : Nat} (hn : n < s.len) (h8 : c ≤ 8) (hin : ∀ i, i < c → 0 ≤ g i ∧ g i < (r n).len) : FineK c (keyW g c (f n)) := by
  refine ⟨keyW_len _ _ _, h8, fun v hv => ?_⟩
  obtain ⟨i, hi, rfl⟩ := List.mem_map.1 hv
  have h1 := hin i (by simpa using hi)
  have h2 := h.wf n hn (g i).toNat (by omega)
  exact ⟨h2.1, h2.2, h.txt n hn (g i).toNat (by omega)⟩
theorem putF_first {c : Nat} {g : Nat → Int} {f : Nat → Nat → Vl} {j : Nat} (hneg : idx (firstP g c f (keyW g c (f j))) 0 j < 0) (x : List Vl) : putF (fun l => idx (firstP g c f l) 0 j) (keyW g c (f j)) (j : Nat) x = idx (firstP g c f x) 0 (j + 1) := by
  unfold putF
  by_cases e : x = keyW g c (f j)
  · subst e
    rw [if_pos rfl]
    exact ((idx_nextB _ j).1 (sameL_iff.2 rfl) hneg).symm
  · rw [if_neg e]
    refine ((idx_nextB _ j).2.2 ?_).symm
    cases h : firstP g c f x j
    · rfl
    · exact absurd (sameL_iff.1 h).symm e
theorem same_first {c : Nat} {g : Nat → Int} {f : Nat → Nat → Vl} {j : Nat} (hp : 0 ≤ idx (firstP g c f (keyW g c (f j))) 0 j) (x : List Vl) : idx (firstP g c f x) 0 j = idx (firstP g c f x) 0 (j + 1) := by
  by_cases e : x = keyW g c (f j)
  · subst e
    exact ((idx_nextB _ j).2.1 hp).symm
  · refine ((idx_nextB _ j).2.2 ?_).symm
    cases h : firstP g c f x j
    · rfl
    · exact absurd (sameL_iff.1 h).symm e
set_option maxHeartbeats 8000000 in
set_option maxRecDepth 20000 in
theorem firstRows_calls (s cs : Sl) (r : Nat → Sl) (f : Nat → Nat → Vl) (g : Nat → Int) (w : World) (hr : RwsAt w s r f) (hc : SlAt w 1 cs (intC g)) (hin : ∀ n, n < s.len → ∀ i, i < cs.len → 0 ≤ g i ∧ g i < (r n).len) (h8 : cs.len ≤ 8) (hs : s.len ≤ 10000) :
    Calls Tryz.prog 85 #[.slice s.a s.len s.cap, .slice cs.a cs.len cs.cap] w fun e w' => ∃ B, e = .returned (.map (some B)) ∧ FirstIs w' B s.len cs.len (fun l => idx (firstP g cs.len f l) 0 s.len) ∧ Cls w w' := by
  have hle := hr.rows.1
  have hmax := hr.rows.2.1
  unfold maxLen at hmax
  have HRW := Lib.hid hr.rows.2.2.2
  have C1 : Hid (∀ j, j < s.len → ∀ W, Below w.heap.size w W → Calls Tryz.prog 116 #[.slice (r j).a (r j).len (r j).cap, .slice cs.a cs.len cs.cap] W fun e w' => e = .returned (.tuple #[keyV (keyW g cs.len (f j)), .bool (!nulL (keyW g cs.len (f j)))]) ∧ Cls W w') := Lib.hid fun j hj W hW => keyOf_calls (r j) cs (f j) g W ((hr.vals j hj).later hW) (hc.later hW) (hin j hj) h8
  have HFK : Hid (∀ j, j < s.len → FineK cs.len (keyW g cs.len (f j))) := Lib.hid fun j hj => fineK_row hr hj h8 (hin j hj)
  have HPF : Hid (∀ j, idx (firstP g cs.len f (keyW g cs.len (f j))) 0 j < 0 → ∀ x, putF (fun l => idx (firstP g cs.len f l) 0 j) (keyW g cs.len (f j)) (j : Nat) x = idx (firstP g cs.len f x) 0 (j + 1)) := Lib.hid fun j h x => putF_first h x
  have HSF : Hid (∀ j, 0 ≤ idx (firstP g cs.len f (keyW g cs.len (f j))) 0 j → ∀ x, idx (firstP g cs.len f x) 0 j = idx (firstP g cs.len f x) 0 (j + 1)) := Lib.hid fun j h x => same_first h x
  have HF0 : Hid (∀ x, idx (firstP g cs.len f x) 0 0 = -1) := Lib.hid fun x => rfl
  clear hr hc hin
  generalize hF : (fun (j : Nat) (l : List Vl) => idx (firstP g cs.len f l) 0 j) = F at *
  have hF2 : ∀ l j, idx (firstP g cs.len f l) 0 j = F j l := fun l j => by rw [← hF]
  simp only [hF2] at HPF HSF HF0 ⊢
  clear hF2 hF
  generalize hK : (fun j => keyW g cs.len (f j)) = kw at *
  have hK2 : ∀ j, keyW g cs.len (f j) = kw j := fun j => by rw [← hK]
  simp only [hK2] at C1 HFK HPF HSF
  clear hK2 hK
  obtain ⟨sa, sn, sc⟩ := s
  obtain ⟨ca, cn, cc⟩ := cs
  simp only at hle hmax HRW C1 HFK h8 hs ⊢
  have hmm := @run_makeMap Tryz.prog
  go_enter Tryz.func85, Tryz.ntmps85
  go_wp2_with fail
  clear hmm
  have hf0 : FirstIs (w.alloc (.map #[] 0)) w.heap.size 0 cn (F 0) := (FirstIs.made w cn).congr fun l _ => (HF0.out l).symm
  have HFI := Lib.hid hf0
  have HB0 : Hid (Below w.heap.size w (w.alloc (.map #[] 0))) := Lib.hid (by repeat first|with_reducible exact Below.refl _ _|with_reducible refine Below.setCell ?_ (by first|omega|(simp;done)|(simp;omega)) _|with_reducible refine Below.alloc ?_ (by first|omega|(simp;done)|(simp;omega)) _|with_reducible refine Below.drew ?_|with_reducible refine Ext.on _ ?_ (by first|omega|(simp;done)|(simp;omega)))
  have h0s : (w.alloc (.map #[] 0)).heap.size = w.heap.size + 1 := by simp
  clear hf0
  generalize (w.alloc (.map #[] 0)) = W0 at *
  go_loopw [15] (fun i wr => ∃ j : Nat, j ≤ sn ∧ i = .int .i64 j ∧ FirstIs wr w.heap.size j cn (F j) ∧ Below w.heap.size w wr) (fun i _ => sn - (intOf i).toNat)
  case atStart => exact ⟨0, Nat.zero_le _, rfl, HFI.out, HB0.out⟩
  case round =>
    obtain ⟨j, hj, rfl, hfi, hbw⟩ := hrel
    have HI := Lib.hid hfi
    have HW := Lib.hid hbw
    have hws := hfi.lt
    clear hfi hbw HFI HB0
    by_cases hlt : j < sn
    · obtain ⟨b, off, ha, hb, hc⟩ := HRW.out j hlt
      subst ha
      have q0 := hc 0 (by omega)
      simp only [Sl.v, List.getElem?_cons_zero, Nat.add_zero, Nat.mul_one] at q0
      rw [← HW.out.cell (p := ⟨b, _, none⟩) hb] at q0
      have hb2 : b < wr.heap.size := by omega
      have D1 := Lib.hid (C1.out j hlt)
      have HFJ := Lib.hid (HFK.out j hlt)
      have HPJ := Lib.hid (HPF.out j)
      have HSJ := Lib.hid (HSF.out j)
      clear hc C1 HFK HPF HSF HF0 HRW
      generalize r j = u at *
      generalize kw j = L at *
      obtain ⟨ua, un, uc⟩ := u
      simp only at q0 D1
      by_cases hd : 0 ≤ F j L
      · have hd2 : decide (0 ≤ F j L) = true := by simpa using hd
        have HFN := Lib.hid (HI.out.congr fun x _ => HSJ.out hd x)
        go_wp2_with (first | (go_at_call 116; ((with_reducible refine (D1.out _ HW.out).mono ?_); rintro e _ ⟨rfl, y, rfl⟩; have ys := y.size)) | (refine wpList_newK y.val rfl _ _ rfl HFJ.out rfl rfl ?_) | (refine wpList_loadK rfl _ rfl HFJ.out y.val.heap.size rfl (heap_alloc_new _ _) ?_; have HLK := ((HI.out.later y.below).later ((Below.refl _ _).alloc (Nat.le_refl _) (.cells (flatK (padK L)).toArray 151))).look_ok HFJ.out; rw [hd2] at HLK))
        go_roundw
        case rel =>
          obtain ⟨D, hm, hd⟩ := HFN.out
          refine ⟨j + 1, by omega, by go_num, ((FirstIs.later (w := wr) ⟨D, hm.mono (by omega), hd⟩ y.below).later ((Below.refl _ _).alloc (Nat.le_refl _) _)), ?_⟩
          exact (y.on HW.out (by omega)).alloc (by have := HW.out.size; omega) _
        case measure => simp [intOf]; omega
      · have hd2 : decide (0 ≤ F j L) = false := by simpa using hd
        have HPN := Lib.hid (HPJ.out (by omega))
        go_wp2_with (first | (go_at_call 116; ((with_reducible refine (D1.out _ HW.out).mono ?_); rintro e _ ⟨rfl, y, rfl⟩; have ys := y.size)) | (refine wpList_newK y.val rfl _ _ rfl HFJ.out rfl rfl ?_) | (refine wpList_loadK rfl _ rfl HFJ.out y.val.heap.size rfl (heap_alloc_new _ _) ?_; have HLK := ((HI.out.later y.below).later ((Below.refl _ _).alloc (Nat.le_refl _) (.cells (flatK (padK L)).toArray 151))).look_ok HFJ.out; rw [hd2] at HLK) | (at_mapUpdate; refine wpList_storeK _ rfl _ _ _ rfl w.heap.size j cn j (F j) rfl ((HI.out.later y.below).later ((Below.refl _ _).alloc (Nat.le_refl _) _)) (by unfold maxLen; omega) L HFJ.out rfl (by omega) rfl ?_; intro w3 hst3 hg3; have HS3 := Lib.hid hst3; have HG3 := Lib.hid hg3; clear hst3 hg3))
        go_roundw
        case rel =>
          refine ⟨j + 1, by omega, by go_num, HS3.out.congr fun x _ => HPN.out x, ?_⟩
          exact Below.grown (w := y.val.alloc _) ((y.on HW.out (by omega)).alloc (by have := HW.out.size; omega) _) HG3.out (by have := HW.out.size; simp; omega) (fun k hk => by have := Option.some.inj hk; omega)
        case measure => simp [intOf]; omega
    · obtain rfl : j = sn := by omega
      go_wp2_with fail
      go_ret
      exact ⟨_, rfl, HI.out, Cls.of HW.out⟩
end Go.Proofs.YtdmhmlnfoocnjaaGreatDoor
set_option linter.unusedVariables false
namespace Go.Proofs.YtdmhmlnfoocnjaaGreatDoor
open Go Go.RowKit Go.Deep
theorem infoO : (Tryz.prog.info? 74).map (fun i => (i.zero, i.size, i.bytes)) = some (some (.agg #[.int .i64 0, .int .i64 0, .int .i64 0, .int .i64 0, .int .i64 0]), 5, 40) := by kernel_rfl
def OwnO (w : World) (base : Nat) (v : Value) (L : List Vio) : Prop := w.ownsRow base 74 5 v L.length (flatO L)
theorem OwnO.nil (w : World) (base : Nat) : OwnO w base (.slice none 0 0) [] := World.ownsRow_nil _ _ _ _
theorem own_laterO {w w' : World} {base size n : Nat} {e : TypeId} {v : Value} {xs : List Value} (h : w.ownsRow base e size v n xs) (hb : Below w.heap.size w w') : w'.ownsRow base e size v n xs := by
  refine ⟨h.1, h.2.imp id ?_⟩
  rintro ⟨g, cap, cur, hv, hg, hh, rest⟩
  exact ⟨g, cap, cur, hv, hg, (hb.block g (Array.getElem?_eq_some_iff.1 hh).1).trans hh, rest⟩
theorem OwnO.later {w w' : World} {base : Nat} {v : Value} {L : List Vio} (h : OwnO w base v L) (hb : Below w.heap.size w w') : OwnO w' base v L := own_laterO h hb
theorem OwnO.mono {w : World} {base base' : Nat} {v : Value} {L : List Vio} (h : OwnO w base v L) (hb : base' ≤ base) : OwnO w base' v L := by
  refine ⟨h.1, h.2.imp id ?_⟩
  rintro ⟨g, cap, cur, hv, hg, rest⟩
  exact ⟨g, cap, cur, hv, Nat.le_trans hb hg, rest⟩
theorem OwnO.kept {w w' : World} {base : Nat} {v : Value} {L : List Vio} {row : Option Nat} (h : OwnO w base v L) (hg : w.grownBy w' row) (hne : v.ownBlock = none ∨ v.ownBlock ≠ row) : OwnO w' base v L := World.ownsRow.kept h hg hne
theorem OwnO.lt {w : World} {base : Nat} {v : Value} {L : List Vio} (h : OwnO w base v L) : ∀ k, v.ownBlock = some k → base ≤ k ∧ k < w.heap.size := World.ownsRow.lt h
theorem OwnO.read {w : World} {base : Nat} {v : Value} {L : List Vio} (h : OwnO w base v L) : ∃ s : Sl, v = s.v ∧ s.len = L.length ∧ SlAt w 5 s (fun i => vioC (L.getD i ⟨0, 0, 0, 0, 0⟩)) := by
  rcases h.2 with ⟨rfl, h0⟩ | ⟨g, cap, cur, rfl, hb, hh, hn, hc, hs, ht⟩
  · exact ⟨Sl.z, rfl, h0.symm, Nat.le_refl _, Nat.zero_le _, fun _ => ⟨rfl, rfl⟩, fun i hi => absurd hi (Nat.not_lt_zero _)⟩
  · refine ⟨⟨some ⟨g, 0, none⟩, L.length, cap⟩, rfl, rfl, hn, hc, (fun h => by cases h), fun i hi => ⟨g, 0, rfl, (Array.getElem?_eq_some_iff.1 hh).1, fun j hj => ?_⟩⟩
    have hi2 : i < L.length := hi
    rw [Nat.zero_add, World.ownsRow.cellAt h (i * 5 + j) (by omega), flatO_at L i j hi2 hj]
theorem cells_atO (X : World) (n : Nat) (hn : X.heap.size = n) (u : Vio) (t : TypeId) : ∀ j c, (vioC u)[j]? = some c → (X.alloc (.cells #[.int .i64 u.k, .int .i64 u.t, .int .i64 u.i, .int .i64 u.r, .int .i64 u.o] t)).cell? ((⟨n, 0, none⟩ : Addr).add j) = some c := by
  subst hn
  exact cells_new' X (vioC u) t
theorem OwnO.at_ {w : World} {base : Nat} {a : Option Addr} {n c : Nat} {L : List Vio} (h : OwnO w base (.slice a n c) L) : n = L.length ∧ n ≤ c ∧ c ≤ maxLen ∧ ∀ i, i < n → ∃ g, a = some ⟨g, 0, none⟩ ∧ base ≤ g ∧ g < w.heap.size ∧ w.cell? ⟨g, i * 5, none⟩ = some (.int .i64 (L.getD i ⟨0, 0, 0, 0, 0⟩).k) ∧ w.cell? ⟨g, i * 5 + 1, none⟩ = some (.int .i64 (L.getD i ⟨0, 0, 0, 0, 0⟩).t) ∧
    w.cell? ⟨g, i * 5 + 2, none⟩ = some (.int .i64 (L.getD i ⟨0, 0, 0, 0, 0⟩).i) ∧ w.cell? ⟨g, i * 5 + 3, none⟩ = some (.int .i64 (L.getD i ⟨0, 0, 0, 0, 0⟩).r) ∧ w.cell? ⟨g, i * 5 + 4, none⟩ = some (.int .i64 (L.getD i ⟨0, 0, 0, 0, 0⟩).o) := by
  rcases h.2 with ⟨e, h0⟩ | ⟨g, cap, cur, e, hb, hh, hn, hc, hs, ht⟩
  · simp only [Value.slice.injEq] at e
    obtain ⟨rfl, rfl, rfl⟩ := e
    exact ⟨h0.symm, Nat.le_refl _, Nat.zero_le _, fun i hi => absurd hi (Nat.not_lt_zero _)⟩
  · simp only [Value.slice.injEq] at e
    obtain ⟨rfl, rfl, rfl⟩ := e
    refine ⟨rfl, hn, hc, fun i hi => ⟨g, rfl, hb, (Array.getElem?_eq_some_iff.1 hh).1, ?_⟩⟩
    have hk : ∀ j, j < 5 → w.cell? ⟨g, i * 5 + j, none⟩ = (vioC (L.getD i ⟨0, 0, 0, 0, 0⟩))[j]? := fun j hj => by
      rw [World.ownsRow.cellAt h (i * 5 + j) (by omega), flatO_at L i j hi hj]
    exact ⟨hk 0 (by omega), hk 1 (by omega), hk 2 (by omega), hk 3 (by omega), hk 4 (by omega)⟩
theorem OwnO.slice {w : World} {base : Nat} {v : Value} {L : List Vio} (h : OwnO w base v L) : ∃ a n c, v = .slice a n c := by
  rcases h.2 with ⟨rfl, _⟩ | ⟨g, cap, cur, rfl, _⟩
  · exact ⟨_, _, _, rfl⟩
  · exact ⟨_, _, _, rfl⟩
section
variable {P : Program} {w : World} {ops : Array Oper} {rest : List Oper} {o : Oper} {a : Act} {Q : Exit → Act → World → Prop}
theorem append1_O (hgd : o.guard = none) (s x : Operand) (ho : o.op = .call { callee := .builtin .append, args := #[s, x], argTypes := #[34, 34] })
    (base : Nat) (v : Value) (L : List Vio) (hs : a.eval s = v) (hown : OwnO w base v L) (ad : Addr) (u : Vio) (hx : a.eval x = .slice (some ad) 1 1) (hnews : ∀ j c, (vioC u)[j]? = some c → w.cell? (ad.add j) = some c)
    (hL : L.length ≤ 1000000) (hbase : base ≤ w.heap.size) (h : ∀ v' w', OwnO w' base v' (L ++ [u]) → w.grownBy w' v.ownBlock → (v'.ownBlock = v.ownBlock ∨ v'.ownBlock = some w.heap.size) → wpList Tryz.prog ops Q rest (a.put o.dst v') w') :
    wpList Tryz.prog ops Q (o :: rest) a w := by
  obtain ⟨i0, hi, hz0, hz1, hz2⟩ := info_parts infoO
  refine wpList_append_own_at _ hgd s x 34 ho base 74 i0 _ 5 40 Tryz.underlying34 hi hz0 hz1 hz2 rfl (by decide) v L.length (flatO L) hs hown ad 1 1 (vioC u) hx rfl hnews (vioC_one u) (by unfold maxLen; omega) (by omega) hbase fun v' w' h1 h2 _ h3 => h v' w' ?_ h2 h3
  unfold OwnO
  rw [List.length_append, flatO_snoc]
  exact h1
theorem appendN_O (hgd : o.guard = none) (s x : Operand) (ho : o.op = .call { callee := .builtin .append, args := #[s, x], argTypes := #[34, 34] })
    (base : Nat) (v : Value) (L : List Vio) (hs : a.eval s = v) (hown : OwnO w base v L) (b' : Nat) (m : Value) (M : List Vio) (hx : a.eval x = m) (hm : OwnO w b' m M)
    (hL : L.length + M.length ≤ 1000000) (hbase : base ≤ w.heap.size) (h : ∀ v' w', OwnO w' base v' (L ++ M) → w.grownBy w' v.ownBlock → (v'.ownBlock = v.ownBlock ∨ v'.ownBlock = some w.heap.size) → wpList Tryz.prog ops Q rest (a.put o.dst v') w') :
    wpList Tryz.prog ops Q (o :: rest) a w := by
  obtain ⟨i0, hi, hz0, hz1, hz2⟩ := info_parts infoO
  rcases hm.2 with ⟨e, h0⟩ | ⟨g, cap, cur, e, hb, hh, hn, hc, hsz, ht⟩
  · obtain rfl : M = [] := List.length_eq_zero_iff.1 h0
    subst e
    refine wpList_append_own_none hgd s x 34 ho base 74 i0 5 Tryz.underlying34 hi v L.length (flatO L) hs hown hx (h v w ?_ (World.grownBy.refl _ _) (.inl rfl))
    rw [List.append_nil]
    exact hown
  · subst e
    refine wpList_append_own_at _ hgd s x 34 ho base 74 i0 _ 5 40 Tryz.underlying34 hi hz0 hz1 hz2 rfl (by decide) v L.length (flatO L) hs hown ⟨g, 0, none⟩ M.length cap (flatO M) hx (flatO_len M) (fun j c hj => ?_) (fun c hc => ?_) (by unfold maxLen; omega) (by omega) hbase fun v' w' h1 h2 _ h3 => h v' w' ?_ h2 h3
    · exact World.ownsRow.cells hm (g := g) rfl j c hj
    · obtain ⟨u, _, hu⟩ := List.mem_flatMap.1 hc
      exact vioC_one u c hu
    · unfold OwnO
      rw [List.length_append, flatO_app]
      exact h1
end
end Go.Proofs.YtdmhmlnfoocnjaaGreatDoor
