/-
  The type of any expression.
-/
import Derived.Test.YtdmhmlnfoocnjaaGreatDoorK29
import Derived.Test.YtdmhmlnfoocnjaaGreatDoorK30
import Derived.Test.YtdmhmlnfoocnjaaGreatDoorK31
import Derived.Test.YtdmhmlnfoocnjaaGreatDoorK08
set_option linter.unusedVariables false
namespace Go.Proofs.YtdmhmlnfoocnjaaGreatDoor
open Go Go.RowKit Go.Deep
theorem takesO_H : ∀ n : Nat, 1 ≤ n → n < 29 → ∀ m : Nat, takesO (n : Nat) m = takesH (oRow n).has m := by
  intro n h1 h2 m
  have hsp : n = 1 ∨ n = 2 ∨ n = 3 ∨ n = 4 ∨ n = 5 ∨ n = 6 ∨ n = 7 ∨ n = 8 ∨ n = 9 ∨ n = 10 ∨ n = 11 ∨ n = 12 ∨ n = 13 ∨ n = 14 ∨ n = 15 ∨ n = 16 ∨ n = 17 ∨ n = 18 ∨ n = 19 ∨ n = 20 ∨ n = 21 ∨ n = 22 ∨ n = 23 ∨ n = 24 ∨ n = 25 ∨ n = 26 ∨ n = 27 ∨ n = 28 := by omega
  rcases hsp with rfl | rfl | rfl | rfl | rfl | rfl | rfl | rfl | rfl | rfl | rfl | rfl | rfl | rfl | rfl | rfl | rfl | rfl | rfl | rfl | rfl | rfl | rfl | rfl | rfl | rfl | rfl | rfl
  all_goals rfl
def nodeR (tys : List Int) (op ty num : Int) (text : ByteArray) (col : Int) (ks : List Int) : Int × Int :=
  if plainR op ty num text col = true then (if takesO op ks.length = true then (if op = 5 ∧ (col < 0 ∨ (tys.length : Int) ≤ col) then (0, 3) else if resR tys op.toNat ty col ks < 1 ∨ 3 < resR tys op.toNat ty col ks then (0, 4) else (resR tys op.toNat ty col ks, 0)) else (0, 9)) else (0, 1)
theorem plainR_no {op ty num : Int} {text : ByteArray} {col : Int} (h : op < 1 ∨ 29 ≤ op) : plainR op ty num text col = false := by
  unfold plainR
  rw [if_neg (by omega), if_neg (by omega), if_neg (by omega), if_neg (by omega), if_neg (by omega)]
  have : (decide (1 ≤ op) && decide (op ≤ 28)) = false := by
    rw [Bool.and_eq_false_iff]
    simp
    omega
  rw [this, Bool.false_and]
theorem plainR_is : ∀ n : Nat, 1 ≤ n → n < 29 → ∀ (ty num : Int) (text : ByteArray) (col : Int), plainR (n : Nat) ty num text col = (onlyB ty num text col (oRow n).has && permB (n : Nat) ty num text) := by
  intro n h1 h2 ty num text col
  have hsp : n = 1 ∨ n = 2 ∨ n = 3 ∨ n = 4 ∨ n = 5 ∨ n = 6 ∨ n = 7 ∨ n = 8 ∨ n = 9 ∨ n = 10 ∨ n = 11 ∨ n = 12 ∨ n = 13 ∨ n = 14 ∨ n = 15 ∨ n = 16 ∨ n = 17 ∨ n = 18 ∨ n = 19 ∨ n = 20 ∨ n = 21 ∨ n = 22 ∨ n = 23 ∨ n = 24 ∨ n = 25 ∨ n = 26 ∨ n = 27 ∨ n = 28 := by omega
  rcases hsp with rfl | rfl | rfl | rfl | rfl | rfl | rfl | rfl | rfl | rfl | rfl | rfl | rfl | rfl | rfl | rfl | rfl | rfl | rfl | rfl | rfl | rfl | rfl | rfl | rfl | rfl | rfl | rfl
  all_goals first
    | (rw [Bool.eq_iff_iff]; simp [plainR, onlyB, permB, oRow, opsRows, litV, vB, isT]; done)
    | (rw [Bool.eq_iff_iff]; simp [plainR, onlyB, permB, oRow, opsRows, litV, vB, isT]; grind)
theorem isT_cases {k : Int} (h : isT k = true) : k = 1 ∨ k = 2 ∨ k = 3 := by
  unfold isT at h
  simp at h
  omega
theorem isT_range {t : Int} : (t < 1 ∨ 3 < t) ↔ isT t = false := by
  unfold isT
  simp
  omega
theorem len1 {l : List Int} (h : l.length = 1) : ∃ a, l = [a] := by
  match l, h with
  | [a], _ => exact ⟨a, rfl⟩
theorem len2 {l : List Int} (h : l.length = 2) : ∃ a b, l = [a, b] := by
  match l, h with
  | [a, b], _ => exact ⟨a, b, rfl⟩
theorem len3 {l : List Int} (h : l.length = 3) : ∃ a b c, l = [a, b, c] := by
  match l, h with
  | [a, b, c], _ => exact ⟨a, b, c, rfl⟩
def resQ (n : Nat) (ks : List Int) : Int := if (resP (oRow n) ks).2 = true then (resP (oRow n) ks).1 else 0
theorem alike_all {o : ORow} (hw : ∀ j, wantAt o j = -1) : ∀ (l : List Int) (j : Nat) (one : Int), one ≠ 0 → resL o j one l = if allIs l one = true then some one else none
  | [], _, _, _ => rfl
  | t :: r, j, one, h => by
    by_cases ht : t = one
    · rw [(resL_is o j one t r).2.1 (hw j) h ht, alike_all hw r (j + 1) one h]
      have e : allIs (t :: r) one = allIs r one := by unfold allIs; simp [ht]
      rw [e]
    · rw [(resL_is o j one t r).2.2.1 (hw j) h ht]
      have e : allIs (t :: r) one = false := by unfold allIs; simp [ht]
      rw [e]
      rfl
theorem want28 : ∀ j, wantAt (oRow 28) j = -1 := by
  intro j
  unfold wantAt
  split <;> rfl
theorem res_eq (tys : List Int) (ty col : Int) : ∀ n : Nat, 1 ≤ n → n < 29 → n ≠ 1 → n ≠ 5 → ∀ ks : List Int, (∀ k ∈ ks, isT k = true) → takesH (oRow n).has ks.length = true → resR tys n ty col ks = resQ n ks := by
  intro n h1 h2 n1 n5 ks hk ht
  by_cases h28 : n = 28
  · subst h28
    match ks, hk, ht with
    | [], _, ht => exact absurd ht (by decide)
    | a :: r, hk, ht =>
      have ha := isT_cases (hk a (by simp))
      have hr : resR tys 28 ty col (a :: r) = if allIs (a :: r) a = true then 2 else 0 := rfl
      have e : allIs (a :: r) a = allIs r a := by unfold allIs; simp
      have hl : resL (oRow 28) 0 0 (a :: r) = if allIs r a = true then some a else none := by
        rw [(resL_is (oRow 28) 0 0 a r).1 (want28 0) rfl]
        exact alike_all want28 r 1 a (by omega)
      rw [hr, e]
      unfold resQ
      by_cases hc : allIs r a = true
      · rw [if_pos hc, resP_some (by rw [hl, if_pos hc])]
        rfl
      · rw [if_neg hc, resP_none (by rw [hl, if_neg hc])]
        rfl
  · have hsp : n = 1 ∨ n = 2 ∨ n = 3 ∨ n = 4 ∨ n = 5 ∨ n = 6 ∨ n = 7 ∨ n = 8 ∨ n = 9 ∨ n = 10 ∨ n = 11 ∨ n = 12 ∨ n = 13 ∨ n = 14 ∨ n = 15 ∨ n = 16 ∨ n = 17 ∨ n = 18 ∨ n = 19 ∨ n = 20 ∨ n = 21 ∨ n = 22 ∨ n = 23 ∨ n = 24 ∨ n = 25 ∨ n = 26 ∨ n = 27 ∨ n = 28 := by omega
    rcases hsp with rfl | rfl | rfl | rfl | rfl | rfl | rfl | rfl | rfl | rfl | rfl | rfl | rfl | rfl | rfl | rfl | rfl | rfl | rfl | rfl | rfl | rfl | rfl | rfl | rfl | rfl | rfl | rfl
    all_goals first
      | exact absurd rfl n1
      | exact absurd rfl n5
      | exact absurd rfl h28
      | (have hl : ks.length = 0 := by simpa [takesH, oRow, opsRows] using ht
         obtain rfl := List.eq_nil_of_length_eq_zero hl
         rfl)
      | (have hl : ks.length = 1 := by simpa [takesH, oRow, opsRows] using ht
         obtain ⟨a, rfl⟩ := len1 hl
         rcases isT_cases (hk a (by simp)) with rfl | rfl | rfl <;> rfl)
      | (have hl : ks.length = 2 := by simpa [takesH, oRow, opsRows] using ht
         obtain ⟨a, b, rfl⟩ := len2 hl
         rcases isT_cases (hk a (by simp)) with rfl | rfl | rfl <;> rcases isT_cases (hk b (by simp)) with rfl | rfl | rfl <;> rfl)
      | (have hl : ks.length = 3 := by simpa [takesH, oRow, opsRows] using ht
         obtain ⟨a, b, c, rfl⟩ := len3 hl
         rcases isT_cases (hk a (by simp)) with rfl | rfl | rfl <;> rcases isT_cases (hk b (by simp)) with rfl | rfl | rfl <;> rcases isT_cases (hk c (by simp)) with rfl | rfl | rfl <;> rfl)
theorem resP_type : ∀ n : Nat, 1 ≤ n → n < 29 → n ≠ 1 → n ≠ 5 → ∀ ks : List Int, (∀ k ∈ ks, isT k = true) → takesH (oRow n).has ks.length = true → (resP (oRow n) ks).2 = true → isT (resP (oRow n) ks).1 = true := by
  intro n h1 h2 n1 n5 ks hk ht
  by_cases h28 : n = 28
  · subst h28
    unfold resP
    cases resL (oRow 28) 0 0 ks with
    | none => intro hr; cases hr
    | some one => intro _; rfl
  · have hsp : n = 1 ∨ n = 2 ∨ n = 3 ∨ n = 4 ∨ n = 5 ∨ n = 6 ∨ n = 7 ∨ n = 8 ∨ n = 9 ∨ n = 10 ∨ n = 11 ∨ n = 12 ∨ n = 13 ∨ n = 14 ∨ n = 15 ∨ n = 16 ∨ n = 17 ∨ n = 18 ∨ n = 19 ∨ n = 20 ∨ n = 21 ∨ n = 22 ∨ n = 23 ∨ n = 24 ∨ n = 25 ∨ n = 26 ∨ n = 27 ∨ n = 28 := by omega
    rcases hsp with rfl | rfl | rfl | rfl | rfl | rfl | rfl | rfl | rfl | rfl | rfl | rfl | rfl | rfl | rfl | rfl | rfl | rfl | rfl | rfl | rfl | rfl | rfl | rfl | rfl | rfl | rfl | rfl
    all_goals first
      | exact absurd rfl n1
      | exact absurd rfl n5
      | exact absurd rfl h28
      | (have hl : ks.length = 0 := by simpa [takesH, oRow, opsRows] using ht
         obtain rfl := List.eq_nil_of_length_eq_zero hl
         decide)
      | (have hl : ks.length = 1 := by simpa [takesH, oRow, opsRows] using ht
         obtain ⟨a, rfl⟩ := len1 hl
         rcases isT_cases (hk a (by simp)) with rfl | rfl | rfl <;> decide)
      | (have hl : ks.length = 2 := by simpa [takesH, oRow, opsRows] using ht
         obtain ⟨a, b, rfl⟩ := len2 hl
         rcases isT_cases (hk a (by simp)) with rfl | rfl | rfl <;> rcases isT_cases (hk b (by simp)) with rfl | rfl | rfl <;> decide)
      | (have hl : ks.length = 3 := by simpa [takesH, oRow, opsRows] using ht
         obtain ⟨a, b, c, rfl⟩ := len3 hl
         rcases isT_cases (hk a (by simp)) with rfl | rfl | rfl <;> rcases isT_cases (hk b (by simp)) with rfl | rfl | rfl <;> rcases isT_cases (hk c (by simp)) with rfl | rfl | rfl <;> decide)
theorem node_eq (tys : List Int) (op ty num : Int) (text : ByteArray) (col : Int) (ks : List Int) (hk : ∀ k ∈ ks, isT k = true) : nodeR tys op ty num text col ks = nodeT tys op ty num text col ks := by
  by_cases hop : op < 1 ∨ 29 ≤ op
  · unfold nodeR
    rw [plainR_no hop, if_neg Bool.false_ne_true, nodeT_no hop]
  · obtain ⟨n, rfl⟩ : ∃ n : Nat, op = n := ⟨op.toNat, by omega⟩
    have h1 : 1 ≤ n := by omega
    have h2 : n < 29 := by omega
    unfold nodeR
    rw [nodeT_yes h1 h2, plainR_is n h1 h2, takesO_H n h1 h2, Int.toNat_natCast]
    cases ho : onlyB ty num text col (oRow n).has
    · rfl
    · cases hp : permB (n : Nat) ty num text
      · rfl
      · cases ht : takesH (oRow n).has ks.length
        · rfl
        · show (if ((n : Nat) : Int) = 5 ∧ (col < 0 ∨ (tys.length : Int) ≤ col) then ((0 : Int), (3 : Int)) else if resR tys n ty col ks < 1 ∨ 3 < resR tys n ty col ks then (0, 4) else (resR tys n ty col ks, 0)) = (if n = 1 then (ty, 0) else if n = 5 then colT tys col else if (resP (oRow n) ks).2 = true then ((resP (oRow n) ks).1, 0) else (0, 4))
          by_cases n1 : n = 1
          · subst n1
            have hT : isT ty = true := hp
            have hr : resR tys 1 ty col ks = ty := rfl
            rw [hr, if_neg (by omega), if_neg (by rw [isT_range, hT]; exact Bool.noConfusion), if_pos rfl]
          · by_cases n5 : n = 5
            · subst n5
              have hr : resR tys 5 ty col ks = tys.getD col.toNat 0 := rfl
              rw [hr, if_neg n1, if_pos rfl]
              unfold colT
              by_cases c0 : col < 0
              · rw [if_pos ⟨rfl, .inl c0⟩, if_pos c0]
              · by_cases c1 : (tys.length : Int) ≤ col
                · rw [if_pos ⟨rfl, .inr c1⟩, if_neg c0, if_pos c1]
                · rw [if_neg (fun h => h.2.elim c0 c1), if_neg c0, if_neg c1]
                  cases hb : isT (tys.getD col.toNat 0)
                  · rw [if_pos (isT_range.2 hb), if_neg Bool.false_ne_true]
                  · rw [if_neg (fun h => by have := isT_range.1 h; rw [hb] at this; cases this), if_pos rfl]
            · have hq := res_eq tys ty col n h1 h2 n1 n5 ks hk ht
              rw [hq, if_neg (by omega), if_neg n1, if_neg n5]
              unfold resQ
              cases hb : (resP (oRow n) ks).2
              · rfl
              · have hty := resP_type n h1 h2 n1 n5 ks hk ht hb
                rw [if_pos rfl, if_pos rfl, if_neg (fun h => by have := isT_range.1 h; rw [hty] at this; cases this)]
theorem nodeT_type (tys : List Int) (op ty num : Int) (text : ByteArray) (col : Int) (ks : List Int) (hk : ∀ k ∈ ks, isT k = true) (h : (nodeT tys op ty num text col ks).2 = 0) : isT (nodeT tys op ty num text col ks).1 = true := by
  rw [← node_eq tys op ty num text col ks hk] at h ⊢
  unfold nodeR at h ⊢
  split at h
  · split at h
    · split at h
      · cases h
      · split at h
        · cases h
        · rename_i h1 h2 h3 h4
          rw [if_pos h1, if_pos h2, if_neg h3, if_neg h4]
          cases hb : isT (resR tys op.toNat ty col ks)
          · exact absurd (isT_range.2 hb) h4
          · rfl
    · cases h
  · cases h
mutual
def tyE (tys : List Int) : Ex → Int × Int
  | .mk op ty num text col l => if fstI ((tyEs tys l).map (·.2)) = 0 then nodeT tys op ty num text col ((tyEs tys l).map (·.1)) else (0, fstI ((tyEs tys l).map (·.2)))
def tyEs (tys : List Int) : List Ex → List (Int × Int)
  | [] => []
  | k :: r => tyE tys k :: tyEs tys r
end
theorem tyEs_map (tys : List Int) (l : List Ex) : tyEs tys l = l.map (tyE tys) := by
  induction l with
  | nil => rfl
  | cons k r ih => rw [tyEs, ih]; rfl
theorem tyE_eq (tys : List Int) (e : Ex) : tyE tys e = if fstI (e.kids.map fun k => (tyE tys k).2) = 0 then nodeT tys e.op e.ty e.num e.text e.col (e.kids.map fun k => (tyE tys k).1) else (0, fstI (e.kids.map fun k => (tyE tys k).2)) := by
  obtain ⟨op, ty, num, text, col, l⟩ := e
  rw [tyE, tyEs_map, List.map_map, List.map_map]
  rfl
theorem fstI_zero : ∀ {l : List Int}, fstI l = 0 → ∀ e ∈ l, e = 0
  | [], _, e, h => by simp at h
  | x :: r, h, e, he => by
    unfold fstI at h
    split at h
    · rename_i hx
      rcases List.mem_cons.1 he with rfl | he
      · exact hx
      · exact fstI_zero h e he
    · rename_i hx
      exact absurd h hx
theorem tyE_type (tys : List Int) : ∀ e : Ex, (tyE tys e).2 = 0 → isT (tyE tys e).1 = true := fun e => by
  refine Ex.ind (M := fun e => (tyE tys e).2 = 0 → isT (tyE tys e).1 = true) (fun e ih h => ?_) e
  rw [tyE_eq] at h ⊢
  by_cases h0 : fstI (e.kids.map fun k => (tyE tys k).2) = 0
  · rw [if_pos h0] at h ⊢
    refine nodeT_type _ _ _ _ _ _ _ (fun k hk => ?_) h
    obtain ⟨x, hx, rfl⟩ := List.mem_map.1 hk
    exact ih x hx (fstI_zero h0 _ (List.mem_map.2 ⟨x, hx, rfl⟩))
  · rw [if_neg h0] at h
    exact absurd h h0
end Go.Proofs.YtdmhmlnfoocnjaaGreatDoor
set_option linter.unusedVariables false
namespace Go.Proofs.YtdmhmlnfoocnjaaGreatDoor
open Go Go.RowKit Go.Deep
set_option maxHeartbeats 2000000 in
theorem rDepth_calls : ∀ (e : Ex) (a : Option Addr) (len cap : Nat) (ok : Nat → Prop) (w : World), Kids w ok a len cap e.kids → depE e ≤ 1000 →
    Calls Tryz.prog 99 #[.agg #[.int .i64 e.op, .int .i64 e.ty, .int .i64 e.num, .string e.text, .int .i64 e.col, .slice a len cap]] w fun r w' => r = .returned (.int .i64 (depE e : Nat)) ∧ Cls w w' := by
  refine Ex.ind fun e ih => ?_
  intro a len cap ok w hk hd
  have hlen := hk.len_eq
  have hle := hk.le
  have hmax := hk.max
  unfold maxLen at hmax
  have HL := Lib.hid hlen
  have HE : Hid (depE e = depL e.kids + 1) := Lib.hid (depE_eq e)
  have hd2 : depL e.kids ≤ 1000 := by have := HE.out; omega
  have HD : Hid (∀ k ∈ e.kids, depE k ≤ 1000) := Lib.hid (fun k hk => Nat.le_trans (depL_mem k hk) hd2)
  clear hlen
  go_enter Tryz.func99, Tryz.ntmps99
  go_wp2_with fail
  go_loopw [3, 4] (fun n i wr => ∃ (j m : Nat), j ≤ len ∧ i = .int .i64 j ∧ n = .int .i64 m ∧ depL e.kids = max m (depL (e.kids.drop j)) ∧ Cls (w.alloc (.cells #[.int .i64 e.op, .int .i64 e.ty, .int .i64 e.num, .string e.text, .int .i64 e.col, .slice a len cap] 64)) wr) (fun _ i _ => len - (intOf i).toNat)
  case atStart => exact ⟨0, 0, Nat.zero_le _, rfl, rfl, by simp, Cls.of (Below.refl _ _)⟩
  case round =>
    obtain ⟨j, m, hj, rfl, rfl, he, x, rfl⟩ := hrel
    have HN := Lib.hid he
    have hm : m ≤ 1000 := by omega
    clear he
    have xs := x.size
    simp at xs
    by_cases hlt : j < len
    · obtain ⟨a', len', cap', ⟨b, off, rfl, hb, hok, q0, q1, q2, q3, q4, q5⟩, hfine, hk'⟩ := hk.at_ hlt
      have hb1 : b < w.heap.size + 1 := by omega
      have hmem := getD_mem (l := e.kids) (i := j) (by rw [HL.out]; exact hlt)
      have HNN := Lib.hid (depL_drop (l := e.kids) (j := j) (by rw [HL.out]; exact hlt))
      have hdk := HD.out _ hmem
      have C1 : Hid (∀ W, Below w.heap.size w W → Calls Tryz.prog 99 #[.agg #[.int .i64 (e.kids.getD j Ex.z).op, .int .i64 (e.kids.getD j Ex.z).ty, .int .i64 (e.kids.getD j Ex.z).num, .string (e.kids.getD j Ex.z).text, .int .i64 (e.kids.getD j Ex.z).col, .slice a' len' cap']] W fun r w' => r = .returned (.int .i64 (depE (e.kids.getD j Ex.z) : Nat)) ∧ Cls W w') := Lib.hid (fun W hW => ih _ hmem a' len' cap' ok W (hk'.later hW) hdk)
      clear hk hk' hfine hmem ih
      generalize depE (e.kids.getD j Ex.z) = dk at *
      generalize e.kids.getD j Ex.z = k at *
      by_cases hmd : (m : Int) ≤ dk
      all_goals
        go_wp2_with (go_at_call 99; ((with_reducible refine (C1.out _ ?_).mono ?_); (· (repeat first|with_reducible exact Below.refl _ _|with_reducible refine Below.setCell ?_ (by first|omega|(simp;done)|(simp;omega)) _|with_reducible refine Below.alloc ?_ (by first|omega|(simp;done)|(simp;omega)) _|with_reducible refine Below.drew ?_|with_reducible refine Ext.on _ ?_ (by first|omega|(simp;done)|(simp;omega)))); rintro r _ ⟨rfl, y, rfl⟩; have ys := y.size; (try simp at ys)))
        go_roundw
        case rel => exact ⟨j + 1, max m dk, by omega, by go_num, by first | rfl | (simp; omega) | (congr 1; omega), by have := HN.out; have := HNN.out; omega, Cls.of (by repeat first|with_reducible exact Below.refl _ _|with_reducible refine Below.setCell ?_ (by first|omega|(simp;done)|(simp;omega)) _|with_reducible refine Below.alloc ?_ (by first|omega|(simp;done)|(simp;omega)) _|with_reducible refine Below.drew ?_|with_reducible refine Ext.on _ ?_ (by first|omega|(simp;done)|(simp;omega)))⟩
        case measure => simp [intOf]; omega
    · have hm2 : depE e = m + 1 := by
        have := HN.out
        rw [List.drop_of_length_le (by rw [HL.out]; omega), depL] at this
        have := HE.out
        omega
      have HM2 := Lib.hid hm2
      clear hm2
      go_wp2_with fail
      go_ret
      refine ⟨ret_int (by have := HM2.out; omega), Cls.of ?_⟩
      repeat first|with_reducible exact Below.refl _ _|with_reducible refine Below.setCell ?_ (by first|omega|(simp;done)|(simp;omega)) _|with_reducible refine Below.alloc ?_ (by first|omega|(simp;done)|(simp;omega)) _|with_reducible refine Below.drew ?_|with_reducible refine Ext.on _ ?_ (by first|omega|(simp;done)|(simp;omega))
set_option maxHeartbeats 2000000 in
theorem rSize_calls : ∀ (e : Ex) (a : Option Addr) (len cap : Nat) (ok : Nat → Prop) (w : World), Kids w ok a len cap e.kids → sizE e ≤ 1000000 →
    Calls Tryz.prog 62 #[.agg #[.int .i64 e.op, .int .i64 e.ty, .int .i64 e.num, .string e.text, .int .i64 e.col, .slice a len cap]] w fun r w' => r = .returned (.int .i64 (sizE e : Nat)) ∧ Cls w w' := by
  refine Ex.ind fun e ih => ?_
  intro a len cap ok w hk hd
  have hlen := hk.len_eq
  have hle := hk.le
  have hmax := hk.max
  unfold maxLen at hmax
  have HL := Lib.hid hlen
  have HE : Hid (sizE e = sizL e.kids + 1) := Lib.hid (sizE_eq e)
  have hd2 : sizL e.kids ≤ 1000000 := by have := HE.out; omega
  clear hlen
  go_enter Tryz.func62, Tryz.ntmps62
  go_wp2_with fail
  go_loopw [3, 4] (fun n i wr => ∃ (j m : Nat), j ≤ len ∧ i = .int .i64 j ∧ n = .int .i64 m ∧ sizE e = m + sizL (e.kids.drop j) ∧ Cls (w.alloc (.cells #[.int .i64 e.op, .int .i64 e.ty, .int .i64 e.num, .string e.text, .int .i64 e.col, .slice a len cap] 64)) wr) (fun _ i _ => len - (intOf i).toNat)
  case atStart => exact ⟨0, 1, Nat.zero_le _, rfl, rfl, by rw [HE.out, List.drop_zero]; omega, Cls.of (Below.refl _ _)⟩
  case round =>
    obtain ⟨j, m, hj, rfl, rfl, he, x, rfl⟩ := hrel
    have HN := Lib.hid he
    have hm : m ≤ 1000000 := by omega
    clear he
    have xs := x.size
    simp at xs
    by_cases hlt : j < len
    · obtain ⟨a', len', cap', ⟨b, off, rfl, hb, hok, q0, q1, q2, q3, q4, q5⟩, hfine, hk'⟩ := hk.at_ hlt
      have hb1 : b < w.heap.size + 1 := by omega
      have hmem := getD_mem (l := e.kids) (i := j) (by rw [HL.out]; exact hlt)
      have HNN := Lib.hid (sizL_drop (l := e.kids) (j := j) (by rw [HL.out]; exact hlt))
      have hdk : sizE (e.kids.getD j Ex.z) ≤ 1000000 := by have := HN.out; have := HNN.out; omega
      have C1 : Hid (∀ W, Below w.heap.size w W → Calls Tryz.prog 62 #[.agg #[.int .i64 (e.kids.getD j Ex.z).op, .int .i64 (e.kids.getD j Ex.z).ty, .int .i64 (e.kids.getD j Ex.z).num, .string (e.kids.getD j Ex.z).text, .int .i64 (e.kids.getD j Ex.z).col, .slice a' len' cap']] W fun r w' => r = .returned (.int .i64 (sizE (e.kids.getD j Ex.z) : Nat)) ∧ Cls W w') := Lib.hid (fun W hW => ih _ hmem a' len' cap' ok W (hk'.later hW) hdk)
      clear hk hk' hfine hmem ih
      generalize sizE (e.kids.getD j Ex.z) = dk at *
      generalize e.kids.getD j Ex.z = k at *
      go_wp2_with (go_at_call 62; ((with_reducible refine (C1.out _ ?_).mono ?_); (· (repeat first|with_reducible exact Below.refl _ _|with_reducible refine Below.setCell ?_ (by first|omega|(simp;done)|(simp;omega)) _|with_reducible refine Below.alloc ?_ (by first|omega|(simp;done)|(simp;omega)) _|with_reducible refine Below.drew ?_|with_reducible refine Ext.on _ ?_ (by first|omega|(simp;done)|(simp;omega)))); rintro r _ ⟨rfl, y, rfl⟩; have ys := y.size; (try simp at ys)))
      go_roundw
      case rel => exact ⟨j + 1, m + dk, by omega, by go_num, by first | rfl | (simp; omega) | (congr 1; omega), by have := HN.out; have := HNN.out; omega, Cls.of (by repeat first|with_reducible exact Below.refl _ _|with_reducible refine Below.setCell ?_ (by first|omega|(simp;done)|(simp;omega)) _|with_reducible refine Below.alloc ?_ (by first|omega|(simp;done)|(simp;omega)) _|with_reducible refine Below.drew ?_|with_reducible refine Ext.on _ ?_ (by first|omega|(simp;done)|(simp;omega)))⟩
      case measure => simp [intOf]; omega
    · have hm2 : sizE e = m := by
        have := HN.out
        rw [List.drop_of_length_le (by rw [HL.out]; omega), sizL] at this
        omega
      have HM2 := Lib.hid hm2
      clear hm2
      go_wp2_with fail
      go_ret
      refine ⟨ret_int (by rw [HM2.out]), Cls.of ?_⟩
      repeat first|with_reducible exact Below.refl _ _|with_reducible refine Below.setCell ?_ (by first|omega|(simp;done)|(simp;omega)) _|with_reducible refine Below.alloc ?_ (by first|omega|(simp;done)|(simp;omega)) _|with_reducible refine Below.drew ?_|with_reducible refine Ext.on _ ?_ (by first|omega|(simp;done)|(simp;omega))
end Go.Proofs.YtdmhmlnfoocnjaaGreatDoor
