/-
  The type of an operation over its Kids' types.
-/
import Derived.Test.YtdmhmlnfoocnjaaGreatDoorK07
import Derived.Test.YtdmhmlnfoocnjaaGreatDoorRows
import Derived.Test.YtdmhmlnfoocnjaaGreatDoorK02
import Derived.Test.YtdmhmlnfoocnjaaGreatDoorK06
set_option linter.unusedVariables false
namespace Go.Proofs.YtdmhmlnfoocnjaaGreatDoor
open Go Go.RowKit Go.Deep
def wantAt (o : ORow) (i : Nat) : Int := if i = 0 then o.first else o.others
def oneAt (o : ORow) (ks : List Int) : Nat → Int
  | 0 => 0
  | j + 1 => if wantAt o j = -1 ∧ oneAt o ks j = 0 then ks.getD j 0 else oneAt o ks j
def Fits (o : ORow) (ks : List Int) : Prop := ∀ j, j < ks.length → ks.getD j 0 = if wantAt o j = -1 then oneAt o ks (j + 1) else wantAt o j
def givesOf (o : ORow) (ks : List Int) : Int := if o.gives = -1 then oneAt o ks ks.length else o.gives
mutual
def depE : Ex → Nat
  | .mk _ _ _ _ _ l => depL l + 1
def depL : List Ex → Nat
  | [] => 0
  | k :: r => max (depE k) (depL r)
end
theorem depE_eq (e : Ex) : depE e = depL e.kids + 1 := by cases e; simp only [depE, Ex.kids]
theorem depL_drop {l : List Ex} {j : Nat} (h : j < l.length) : depL (l.drop j) = max (depE (l.getD j Ex.z)) (depL (l.drop (j + 1))) := by rw [dropE h, depL]
theorem depL_mem {l : List Ex} : ∀ k ∈ l, depE k ≤ depL l := by
  induction l with
  | nil => intro k h; simp at h
  | cons x r ih =>
    intro k h
    rw [depL]
    rcases List.mem_cons.1 h with rfl | h
    · omega
    · have := ih k h; omega
mutual
def sizE : Ex → Nat
  | .mk _ _ _ _ _ l => sizL l + 1
def sizL : List Ex → Nat
  | [] => 0
  | k :: r => sizE k + sizL r
end
theorem sizE_eq (e : Ex) : sizE e = sizL e.kids + 1 := by cases e; simp only [sizE, Ex.kids]
theorem sizL_drop {l : List Ex} {j : Nat} (h : j < l.length) : sizL (l.drop j) = sizE (l.getD j Ex.z) + sizL (l.drop (j + 1)) := by rw [dropE h, sizL]
mutual
def upE : Ex → Int → Int
  | .mk _ _ _ _ _ l, lim => upL l lim 1
def upL : List Ex → Int → Int → Int
  | [], _, n => n
  | k :: r, lim, n => if lim < n then n else upL r lim (n + upE k (lim - n))
end
theorem upE_eq (e : Ex) (lim : Int) : upE e lim = upL e.kids lim 1 := by cases e; simp only [upE, Ex.kids]
mutual
theorem upE_bd : ∀ (e : Ex) (lim : Int), 0 ≤ lim → 1 ≤ upE e lim ∧ upE e lim ≤ sizE e ∧ ((upE e lim ≤ lim ∧ upE e lim = sizE e) ∨ (lim < upE e lim ∧ lim < sizE e))
  | .mk _ _ _ _ _ l, lim, h => by
    have := upL_bd l lim 1 (by omega) h
    simp only [upE, sizE]
    omega
theorem upL_bd : ∀ (l : List Ex) (lim n : Int), 1 ≤ n → 0 ≤ lim → 1 ≤ upL l lim n ∧ upL l lim n ≤ n + sizL l ∧ ((upL l lim n ≤ lim ∧ upL l lim n = n + sizL l) ∨ (lim < upL l lim n ∧ lim < n + sizL l))
  | [], lim, n, h, h0 => by simp only [upL, sizL]; omega
  | k :: r, lim, n, h, h0 => by
    simp only [upL, sizL]
    by_cases hl : lim < n
    · rw [if_pos hl]; omega
    · rw [if_neg hl]
      have h1 := upE_bd k (lim - n) (by omega)
      have h2 := upL_bd r lim (n + upE k (lim - n)) (by omega) h0
      omega
end
theorem upL_go {l : List Ex} {j : Nat} {lim n : Int} (h : j < l.length) (hl : ¬ lim < n) : upL (l.drop j) lim n = upL (l.drop (j + 1)) lim (n + upE (l.getD j Ex.z) (lim - n)) := by rw [dropE h, upL, if_neg hl]
theorem upL_stop {l : List Ex} {j : Nat} {lim n : Int} (h : j < l.length) (hl : lim < n) : upL (l.drop j) lim n = n := by rw [dropE h, upL, if_pos hl]
set_option maxHeartbeats 2000000 in
theorem Depth_calls : ∀ (e : Ex) (a : Option Addr) (len cap : Nat) (ok : Nat → Prop) (w : World), Kids w ok a len cap e.kids → depE e ≤ 1000 →
    Calls Tryz.prog 134 #[.agg #[.int .i64 e.op, .int .i64 e.ty, .int .i64 e.num, .string e.text, .int .i64 e.col, .slice a len cap]] w fun r w' => r = .returned (.int .i64 (depE e : Nat)) ∧ Cls w w' := by
  refine Ex.ind fun e ih => ?_
  intro a len cap ok w hk hd
  have hlen := hk.len_eq
  have hle := hk.le
  have hmax := hk.max
  unfold maxLen at hmax
  have HL := Lib.hid hlen
  have HE : Hid (depE e = depL e.kids + 1) := Lib.hid (depE_eq e)
  have hd2 : depL e.kids ≤ 1000 := by have := HE.out; omega
  have HD : Hid (∀ k ∈ e.kids, depE k ≤ 1000) := Lib.hid (fun k hk => Nat.le_trans (depL_mem k hk) hd2)
  clear hlen
  go_enter Tryz.func134, Tryz.ntmps134
  go_wp2_with fail
  go_loopw [3, 9] (fun n i wr => ∃ (j m : Nat), j ≤ len ∧ i = .int .i64 j ∧ n = .int .i64 m ∧ depL e.kids = max m (depL (e.kids.drop j)) ∧ Cls (w.alloc (.cells #[.int .i64 e.op, .int .i64 e.ty, .int .i64 e.num, .string e.text, .int .i64 e.col, .slice a len cap] 64)) wr) (fun _ i _ => len - (intOf i).toNat)
  case atStart => exact ⟨0, 0, Nat.zero_le _, rfl, rfl, by simp, Cls.of (Below.refl _ _)⟩
  case round =>
    obtain ⟨j, m, hj, rfl, rfl, he, x, rfl⟩ := hrel
    have HN := Lib.hid he
    have hm : m ≤ 1000 := by omega
    clear he
    have xs := x.size
    simp at xs
    by_cases hlt : j < len
    · obtain ⟨a', len', cap', ⟨b, off, rfl, hb, hok, q0, q1, q2, q3, q4, q5⟩, hfine, hk'⟩ := hk.at_ hlt
      have hb1 : b < w.heap.size + 1 := by omega
      have hmem := getD_mem (l := e.kids) (i := j) (by rw [HL.out]; exact hlt)
      have HNN := Lib.hid (depL_drop (l := e.kids) (j := j) (by rw [HL.out]; exact hlt))
      have hdk := HD.out _ hmem
      have C1 : Hid (∀ W, Below w.heap.size w W → Calls Tryz.prog 134 #[.agg #[.int .i64 (e.kids.getD j Ex.z).op, .int .i64 (e.kids.getD j Ex.z).ty, .int .i64 (e.kids.getD j Ex.z).num, .string (e.kids.getD j Ex.z).text, .int .i64 (e.kids.getD j Ex.z).col, .slice a' len' cap']] W fun r w' => r = .returned (.int .i64 (depE (e.kids.getD j Ex.z) : Nat)) ∧ Cls W w') := Lib.hid (fun W hW => ih _ hmem a' len' cap' ok W (hk'.later hW) hdk)
      clear hk hk' hfine hmem ih
      generalize depE (e.kids.getD j Ex.z) = dk at *
      generalize e.kids.getD j Ex.z = k at *
      by_cases hmd : (m : Int) ≤ dk
      all_goals
        go_wp2_with (go_at_call 134; ((with_reducible refine (C1.out _ ?_).mono ?_); (· (repeat first|with_reducible exact Below.refl _ _|with_reducible refine Below.setCell ?_ (by first|omega|(simp;done)|(simp;omega)) _|with_reducible refine Below.alloc ?_ (by first|omega|(simp;done)|(simp;omega)) _|with_reducible refine Below.drew ?_|with_reducible refine Ext.on _ ?_ (by first|omega|(simp;done)|(simp;omega)))); rintro r _ ⟨rfl, y, rfl⟩; have ys := y.size; simp at ys))
        go_roundw
        case rel => exact ⟨j + 1, max m dk, by omega, by go_num, by first | rfl | (simp; omega) | (congr 1; omega), by have := HN.out; have := HNN.out; omega, Cls.of (by repeat first|with_reducible exact Below.refl _ _|with_reducible refine Below.setCell ?_ (by first|omega|(simp;done)|(simp;omega)) _|with_reducible refine Below.alloc ?_ (by first|omega|(simp;done)|(simp;omega)) _|with_reducible refine Below.drew ?_|with_reducible refine Ext.on _ ?_ (by first|omega|(simp;done)|(simp;omega)))⟩
        case measure => simp [intOf]; omega
    · have hm2 : depE e = m + 1 := by
        have := HN.out
        rw [List.drop_of_length_le (by rw [HL.out]; omega), depL] at this
        have := HE.out
        omega
      have HM2 := Lib.hid hm2
      clear hm2
      go_wp2_with fail
      go_ret
      refine ⟨ret_int (by have := HM2.out; omega), Cls.of ?_⟩
      repeat first|with_reducible exact Below.refl _ _|with_reducible refine Below.setCell ?_ (by first|omega|(simp;done)|(simp;omega)) _|with_reducible refine Below.alloc ?_ (by first|omega|(simp;done)|(simp;omega)) _|with_reducible refine Below.drew ?_|with_reducible refine Ext.on _ ?_ (by first|omega|(simp;done)|(simp;omega))
set_option maxHeartbeats 2000000 in
theorem sizeUpTo_calls : ∀ (e : Ex) (lim : Int) (a : Option Addr) (len cap : Nat) (ok : Nat → Prop) (w : World), Kids w ok a len cap e.kids → sizE e ≤ 1000000 → 0 ≤ lim → lim ≤ 1000000 →
    Calls Tryz.prog 133 #[.int .i64 lim, .agg #[.int .i64 e.op, .int .i64 e.ty, .int .i64 e.num, .string e.text, .int .i64 e.col, .slice a len cap]] w fun r w' => r = .returned (.int .i64 (upE e lim)) ∧ Cls w w' := by
  refine Ex.ind fun e ih => ?_
  intro lim a len cap ok w hk hd hl0 hl1
  have hlen := hk.len_eq
  have hle := hk.le
  have hmax := hk.max
  unfold maxLen at hmax
  have HL := Lib.hid hlen
  have HE := Lib.hid (upE_eq e lim)
  have HZ : Hid (sizE e = sizL e.kids + 1) := Lib.hid (sizE_eq e)
  clear hlen
  go_enter Tryz.func133, Tryz.ntmps133
  go_wp2_with fail
  go_loopw [5, 11] (fun n i wr => ∃ (j : Nat) (m : Int), j ≤ len ∧ i = .int .i64 j ∧ n = .int .i64 m ∧ upE e lim = upL (e.kids.drop j) lim m ∧ 1 ≤ m ∧ m + sizL (e.kids.drop j) ≤ sizE e ∧ Cls (w.alloc (.cells #[.int .i64 e.op, .int .i64 e.ty, .int .i64 e.num, .string e.text, .int .i64 e.col, .slice a len cap] 64)) wr) (fun _ i _ => len - (intOf i).toNat)
  case atStart => exact ⟨0, 1, Nat.zero_le _, rfl, rfl, HE.out, by omega, by have := HZ.out; simp; omega, Cls.of (Below.refl _ _)⟩
  case round =>
    obtain ⟨j, m, hj, rfl, rfl, he, hm1, hms, x, rfl⟩ := hrel
    have HN := Lib.hid he
    clear he
    have xs := x.size
    simp at xs
    by_cases hlt : j < len
    · obtain ⟨a', len', cap', ⟨b, off, rfl, hb, hok, q0, q1, q2, q3, q4, q5⟩, hfine, hk'⟩ := hk.at_ hlt
      have hb1 : b < w.heap.size + 1 := by omega
      have hmem := getD_mem (l := e.kids) (i := j) (by rw [HL.out]; exact hlt)
      have hsd := sizL_drop (l := e.kids) (j := j) (by rw [HL.out]; exact hlt)
      by_cases hlm : lim < m
      · have HST := Lib.hid (upL_stop (l := e.kids) (j := j) (lim := lim) (n := m) (by rw [HL.out]; exact hlt) hlm)
        have d1 : decide (lim < m) = true := by simpa using hlm
        clear hk hk' hfine hmem ih hsd
        generalize e.kids.getD j Ex.z = k at *
        go_wp2_with fail
        go_ret
        refine ⟨ret_int (by rw [HN.out, HST.out]), Cls.of ?_⟩
        repeat first|with_reducible exact Below.refl _ _|with_reducible refine Below.setCell ?_ (by first|omega|(simp;done)|(simp;omega)) _|with_reducible refine Below.alloc ?_ (by first|omega|(simp;done)|(simp;omega)) _|with_reducible refine Below.drew ?_|with_reducible refine Ext.on _ ?_ (by first|omega|(simp;done)|(simp;omega))
      · have HGO := Lib.hid (upL_go (l := e.kids) (j := j) (lim := lim) (n := m) (by rw [HL.out]; exact hlt) hlm)
        have d1 : decide (lim < m) = false := by simpa using hlm
        obtain ⟨hu1, hu2, _⟩ := upE_bd (e.kids.getD j Ex.z) (lim - m) (by omega)
        have C1 : Hid (∀ W, Below w.heap.size w W → Calls Tryz.prog 133 #[.int .i64 (lim - m), .agg #[.int .i64 (e.kids.getD j Ex.z).op, .int .i64 (e.kids.getD j Ex.z).ty, .int .i64 (e.kids.getD j Ex.z).num, .string (e.kids.getD j Ex.z).text, .int .i64 (e.kids.getD j Ex.z).col, .slice a' len' cap']] W fun r w' => r = .returned (.int .i64 (upE (e.kids.getD j Ex.z) (lim - m))) ∧ Cls W w') := Lib.hid (fun W hW => ih _ hmem (lim - m) a' len' cap' ok W (hk'.later hW) (by omega) (by omega) (by omega))
        clear hk hk' hfine hmem ih
        generalize upE (e.kids.getD j Ex.z) (lim - m) = uk at *
        generalize sizE (e.kids.getD j Ex.z) = sk at *
        generalize e.kids.getD j Ex.z = k at *
        go_wp2_with (go_at_call 133; ((with_reducible refine (C1.out _ ?_).mono ?_); (· (repeat first|with_reducible exact Below.refl _ _|with_reducible refine Below.setCell ?_ (by first|omega|(simp;done)|(simp;omega)) _|with_reducible refine Below.alloc ?_ (by first|omega|(simp;done)|(simp;omega)) _|with_reducible refine Below.drew ?_|with_reducible refine Ext.on _ ?_ (by first|omega|(simp;done)|(simp;omega)))); rintro r _ ⟨rfl, y, rfl⟩; have ys := y.size; simp at ys))
        go_roundw
        case rel => exact ⟨j + 1, m + uk, by omega, by go_num, rfl, by rw [HN.out, HGO.out], by omega, by omega, Cls.of (by repeat first|with_reducible exact Below.refl _ _|with_reducible refine Below.setCell ?_ (by first|omega|(simp;done)|(simp;omega)) _|with_reducible refine Below.alloc ?_ (by first|omega|(simp;done)|(simp;omega)) _|with_reducible refine Below.drew ?_|with_reducible refine Ext.on _ ?_ (by first|omega|(simp;done)|(simp;omega)))⟩
        case measure => simp [intOf]; omega
    · go_wp2_with fail
      go_ret
      refine ⟨ret_int (by rw [HN.out, List.drop_of_length_le (by rw [HL.out]; omega), upL]), Cls.of ?_⟩
      repeat first|with_reducible exact Below.refl _ _|with_reducible refine Below.setCell ?_ (by first|omega|(simp;done)|(simp;omega)) _|with_reducible refine Below.alloc ?_ (by first|omega|(simp;done)|(simp;omega)) _|with_reducible refine Below.drew ?_|with_reducible refine Ext.on _ ?_ (by first|omega|(simp;done)|(simp;omega))
end Go.Proofs.YtdmhmlnfoocnjaaGreatDoor
set_option linter.unusedVariables false
namespace Go.Proofs.YtdmhmlnfoocnjaaGreatDoor
open Go Go.RowKit Go.ChangeShapes Go.WideShapes Go.Joins Go.Deep
def vlC (v : Vl) : List Value := [.int .i64 v.k, .int .i64 v.n, .string v.s]
structure RwsAt (w : World) (s : Sl) (r : Nat → Sl) (f : Nat → Nat → Vl) : Prop where
  rows : SlAt w 1 s (fun k => [(r k).v])
  vals : ∀ k, k < s.len → SlAt w 3 (r k) (fun j => vlC (f k j))
  txt : ∀ k, k < s.len → ∀ j, j < (r k).len → (f k j).s.size ≤ maxLen
  wf : ∀ k, k < s.len → ∀ j, j < (r k).len → (Lit.int .i64 (f k j).k).wf = true ∧ (Lit.int .i64 (f k j).n).wf = true
theorem RwsAt.later {w w' : World} {s : Sl} {r : Nat → Sl} {f : Nat → Nat → Vl} (h : RwsAt w s r f) (hb : Below w.heap.size w w') : RwsAt w' s r f := ⟨h.rows.later hb, fun k hk => (h.vals k hk).later hb, h.txt, h.wf⟩
structure InsAt (w : World) (s : Sl) (t : Nat → Sl) (r : Nat → Nat → Sl) (f : Nat → Nat → Nat → Vl) : Prop where
  tabs : SlAt w 1 s (fun i => [(t i).v])
  rws : ∀ i, i < s.len → RwsAt w (t i) (r i) (f i)
theorem InsAt.later {w w' : World} {s : Sl} {t : Nat → Sl} {r : Nat → Nat → Sl} {f : Nat → Nat → Nat → Vl} (h : InsAt w s t r f) (hb : Below w.heap.size w w') : InsAt w' s t r f := ⟨h.tabs.later hb, fun i hi => (h.rws i hi).later hb⟩
section
variable {H : Type} {enc : TypeId × Value → H} {w : World} {base : Nat} {spare : Nat → Bool} {held : Bool}
end
end Go.Proofs.YtdmhmlnfoocnjaaGreatDoor
