/-
  How many different values a sorted list has: slices.Compact over values. The sorted list of values that are not null; how many different ones it has; what an aggregate is.
-/
import Derived.Test.YtpddkljedhghkaaDoorA15
import Derived.Lib.SliceRun
import Derived.Laws.StructEq
set_option linter.unusedVariables false
namespace Go.Proofs.YtpddkljedhghkaaDoor.BG
open Go Go.RowKit
def eqv (u t : Vl) : Bool := u.k == t.k && (u.n == t.n && u.s.toList == t.s.toList)
theorem eqv_iff {u t : Vl} : eqv u t = true ↔ u = t := by
  obtain ⟨k, n, s⟩ := u
  obtain ⟨k', n', s'⟩ := t
  unfold eqv
  simp only [Bool.and_eq_true, beq_iff_eq, Vl.mk.injEq]
  exact ⟨fun ⟨h1, h2, h3⟩ => ⟨h1, h2, toList_inj h3⟩, fun ⟨h1, h2, h3⟩ => ⟨h1, h2, by rw [h3]⟩⟩
theorem eqIn_vl (k n : Int) (s : ByteArray) (k' n' : Int) (s' : ByteArray) (w : World) : (Op.equalIn 10000 39 (.agg #[.int .i64 k, .int .i64 n, .string s]) (.agg #[.int .i64 k', .int .i64 n', .string s'])).run Tryd.prog w = .ok (eqv ⟨k, n, s⟩ ⟨k', n', s'⟩) w := by
  have hS : Tryd.prog.underlying 39 = some (.struct (Tryd.prog.fieldsOf 39)) := by kernel_rfl
  have hp : Tryd.prog.stoodInHeld 39 = false := by kernel_rfl
  have u1 := Tryd.underlying3
  have u2 := Tryd.underlying2
  have u3 := Tryd.underlying9
  have a1 := Tryd.isAgg3
  have a2 := Tryd.isAgg2
  have a3 := Tryd.isAgg9
  have z1 := Tryd.sizeOf3
  have z2 := Tryd.sizeOf2
  have z3 := Tryd.sizeOf9
  rw [show (10000 : Nat) = 9999 + 1 from rfl, run_equalIn_agg w 9999 _ _ _ hS hp]
  simp only [Program.fieldsOf, Tryd.underlying39]
  go_simp
  unfold eqv
  by_cases h1 : k = k' <;> by_cases h2 : n = n' <;> by_cases h3 : s.toList = s'.toList <;> simp [h1, h2, h3]
def keepV (l : List Vl) (i : Nat) : Bool := decide (i = 0) || !eqv (l.getD i Vl.z) (l.getD (i - 1) Vl.z)
def runsV (l : List Vl) : Nat → Nat
  | 0 => 0
  | m + 1 => runsV l m + (if keepV l m = true then 1 else 0)
theorem runsV_le (l : List Vl) : ∀ m, runsV l m ≤ m
  | 0 => Nat.le_refl _
  | m + 1 => by have := runsV_le l m; rw [runsV]; split <;> omega
structure CInv (base : Nat) (w0 : World) (g : Nat) (cur : Array Value) (e : TypeId) (lo : Nat) (W : World) : Prop where
  bel : Below base w0 W
  at_ : ∃ cur', W.heap[g]? = some (.cells cur' e) ∧ cur'.size = cur.size ∧ ∀ o, lo ≤ o → cur'[o]? = cur[o]?
namespace CInv
variable {base g lo : Nat} {w0 W : World} {cur : Array Value} {e : TypeId}
theorem start (h : w0.heap[g]? = some (.cells cur e)) : CInv base w0 g cur e 0 w0 := ⟨Below.refl _ _, cur, h, rfl, fun _ _ => rfl⟩
theorem mono (h : CInv base w0 g cur e lo W) {lo' : Nat} (hl : lo ≤ lo') : CInv base w0 g cur e lo' W := by
  obtain ⟨h1, c, h2, h3, h4⟩ := h
  exact ⟨h1, c, h2, h3, fun o ho => h4 o (by omega)⟩
theorem read (h : CInv base w0 g cur e lo W) {o : Nat} {u : Value} (ho : lo ≤ o) (hu : cur[o]? = some u) : W.cell? ⟨g, o, none⟩ = some u := by
  obtain ⟨_, c, h2, h3, h4⟩ := h
  rw [cell_of_row _ _ _ c e (0, 0) h2, h4 o ho]
  exact hu
theorem lt (h : CInv base w0 g cur e lo W) : g < W.heap.size := by
  obtain ⟨_, c, h2, _⟩ := h
  exact (Array.getElem?_eq_some_iff.1 h2).1
theorem some (h : CInv base w0 g cur e lo W) {o : Nat} (ho : o < cur.size) : (W.cell? ⟨g, o, none⟩).isSome = true := by
  obtain ⟨_, c, h2, h3, _⟩ := h
  rw [cell_of_row _ _ _ c e (0, 0) h2]
  simp [h3, ho]
theorem frozen (h : CInv base w0 g cur e lo W) (o : Nat) : W.frozen? ⟨g, o, none⟩ = false := by
  obtain ⟨_, c, h2, _⟩ := h
  simp [World.frozen?, h2]
theorem set (h : CInv base w0 g cur e lo W) (hb : base ≤ g) {o : Nat} (ho : o < lo) (v : Value) : CInv base w0 g cur e lo (W.setCell ⟨g, o, none⟩ v) := by
  obtain ⟨h1, c, h2, h3, h4⟩ := h
  refine ⟨Below.setCell h1 hb _, c.setIfInBounds o v, ?_, by simpa using h3, fun o' ho' => ?_⟩
  · simp [World.setCell, Array.getElem?_modify, h2]
  · rw [Array.getElem?_setIfInBounds_ne (by omega)]
    exact h4 o' ho'
theorem drew (h : CInv base w0 g cur e lo W) : CInv base w0 g cur e lo W.drew := by
  obtain ⟨h1, c, h2, h3, h4⟩ := h
  exact ⟨Below.drew h1, c, h2, h3, h4⟩
theorem ext (h : CInv base w0 g cur e lo W) (hb : base ≤ W.heap.size) (x : Ext W) : CInv base w0 g cur e lo x.val := by
  have hl := h.lt
  obtain ⟨h1, c, h2, h3, h4⟩ := h
  exact ⟨h1.trans (x.below.mono hb), c, (x.below.block g hl).trans h2, h3, h4⟩
end CInv
theorem below_sets {B : Nat} {w0 : World} {b : Nat} (hb : B ≤ b) : ∀ (vs : List Value) (o : Nat) (W : World), Below B w0 W → Below B w0 (W.setCells b o vs)
  | [], _, _, h => h
  | v :: r, o, W, h => by
    rw [World.setCells]
    exact below_sets hb r (o + 1) _ (Below.setCell h hb _)
theorem run_clearK {P : Program} (w : World) (t e : TypeId) (z : Value) (k : Nat) (ht : P.underlying t = some (.slice e)) (hv : ∀ w, (zeroValue e).run P w = .ok z w) (hk : z.cells.size = k) (h1 : ∀ v ∈ z.cells, v.oneCell' = true) (b o n c : Nat) (hn : 0 < n)
    (hc : ∀ j, j < n * k → (w.cell? ⟨b, o + j, none⟩).isSome = true) (hf : ∀ j, j < n * k → w.frozen? ⟨b, o + j, none⟩ = false) :
    ∃ vs, ∀ ty, (Builtin.clear_ #[t] ty #[.slice (some ⟨b, o, none⟩) n c]).run P w = .ok (.tuple #[]) (w.setCells b o vs) := by
  have hlen : (Builtin.zeroCells z.cells n).toList.length = n * k := by simp [Builtin.zeroCells, hk]
  have hone : ∀ v ∈ (Builtin.zeroCells z.cells n).toList, v.oneCell' = true := by
    intro v hv
    simp only [Builtin.zeroCells, Array.toList_map, List.mem_map] at hv
    obtain ⟨i, hi, rfl⟩ := hv
    have hs0 : 0 < z.cells.size := by
      rcases Nat.eq_zero_or_pos z.cells.size with h | h
      · rw [h] at hi; simp at hi
      · exact h
    have hlt := Nat.mod_lt i hs0
    rw [getElem!_pos z.cells _ hlt]
    exact h1 _ (Array.getElem_mem _)
  have hst := run_storeCells_cells (P := P) b o (Builtin.zeroCells z.cells n).toList 0 w (by rw [hlen]; simpa using hc) (by rw [hlen]; simpa using hf) hone
  simp only [Nat.add_zero] at hst
  obtain ⟨m, rfl⟩ : ∃ m, n = m + 1 := ⟨n - 1, by omega⟩
  exact ⟨(Builtin.zeroCells z.cells (m + 1)).toList, fun ty => by simp [Builtin.clear_, run_underlying ht, hv, hst]⟩
set_option maxHeartbeats 8000000 in
set_option maxRecDepth 20000 in
theorem Compact_calls (base : Nat) (v : Value) (l : List Vl) (w : World) (hbase : base ≤ w.heap.size) (h : w.ownsRow base 39 3 v l.length (flatV l)) (hl : l.length ≤ 10000) :
    Calls Tryd.prog 68 #[v] w fun r w' => ∃ (a : Option Addr) (c : Nat), r = .returned (.slice a (runsV l l.length) c) ∧ Below base w w' := by
  rcases h.2 with ⟨rfl, h0⟩ | ⟨g, cap, cur, rfl, hb, hh, hn, hc, hr, ht⟩
  · obtain rfl : l = [] := List.eq_nil_of_length_eq_zero h0
    go_enter Tryd.func68, Tryd.ntmps68
    go_wp2_with fail
    go_ret
    exact ⟨none, 0, rfl, Below.refl _ _⟩
  · have HLN : Hid (l.length = l.length) := Lib.hid rfl
    obtain ⟨n, hln⟩ : ∃ n, l.length = n := ⟨_, rfl⟩
    have HN := Lib.hid hln
    rw [hln] at hn hl ht ⊢
    have HCV : Hid (∀ j, j < n → cur[j * 3]? = some (.int .i64 (l.getD j Vl.z).k) ∧ cur[j * 3 + 1]? = some (.int .i64 (l.getD j Vl.z).n) ∧ cur[j * 3 + 2]? = some (.string (l.getD j Vl.z).s)) := Lib.hid fun j hj => by
      obtain ⟨h0, h1, h2⟩ := flatV_at l j (by omega)
      have key : ∀ i u, (flatV l)[i]? = some u → cur[i]? = some u := fun i u hu => by
        rw [← ht] at hu
        have hi : i < n * 3 := by
          have := (List.getElem?_eq_some_iff.1 hu).1
          rw [List.length_take] at this
          omega
        rw [List.getElem?_take_of_lt hi, Array.getElem?_toList] at hu
        exact hu
      exact ⟨key _ _ h0, key _ _ h1, key _ _ h2⟩
    have I0 := Lib.hid (CInv.start (base := base) hh)
    clear h ht hln
    have hcm := hc
    unfold maxLen at hcm
    by_cases h2 : n < 2
    · have hrv : runsV l n = n := by
        rcases (by omega : n = 0 ∨ n = 1) with rfl | rfl
        · rfl
        · rfl
      have HRV := Lib.hid hrv
      have d1 : (n : Int) < 2 := by omega
      clear hrv
      go_enter Tryd.func68, Tryd.ntmps68
      go_wp2_with fail
      go_ret
      exact ⟨⟨some ⟨g, 0, none⟩, cap, by rw [HRV.out]; rfl⟩, Below.refl _ _⟩
    · have d1 : ¬ ((n : Int) < 2) := by omega
      go_enter Tryd.func68, Tryd.ntmps68
      go_wp2_with fail
      go_loopw [3] (fun i wr => ∃ j : Nat, 1 ≤ j ∧ j ≤ n ∧ i = .int .i64 j ∧ runsV l j = j ∧ Cls w wr) (fun i _ => n - (intOf i).toNat)
      case atStart => exact ⟨1, Nat.le_refl _, by omega, rfl, rfl, Cls.of (Below.refl _ _)⟩
      case round =>
        obtain ⟨j, hj1, hj, rfl, hrv, x, rfl⟩ := hrel
        have HRV := Lib.hid hrv
        clear hrv
        have I1 := Lib.hid (I0.out.ext hbase x)
        by_cases hlt : j < n
        · obtain ⟨p0, p1, p2⟩ := HCV.out j hlt
          obtain ⟨q0, q1, q2⟩ := HCV.out (j - 1) (by omega)
          replace p0 := I1.out.read (Nat.zero_le _) p0
          replace p1 := I1.out.read (Nat.zero_le _) p1
          replace p2 := I1.out.read (Nat.zero_le _) p2
          replace q0 := I1.out.read (Nat.zero_le _) q0
          replace q1 := I1.out.read (Nat.zero_le _) q1
          replace q2 := I1.out.read (Nat.zero_le _) q2
          have hg := I1.out.lt
          have HKV : Hid (keepV l j = !eqv (l.getD j Vl.z) (l.getD (j - 1) Vl.z)) := Lib.hid (by unfold keepV; simp; omega)
          generalize l.getD j Vl.z = u at *
          generalize l.getD (j - 1) Vl.z = t at *
          obtain ⟨uk, un, us⟩ := u
          obtain ⟨tk, tn, ts⟩ := t
          simp only at p0 p1 p2 q0 q1 q2
          have HEQ := eqIn_vl uk un us tk tn ts
          generalize eqv ⟨uk, un, us⟩ ⟨tk, tn, ts⟩ = eb at *
          go_wp2_with fail
          refine wp_region_ext (by kernel_rfl) (by kernel_rfl) ?_
          repeat (go_big_quiet_step (fail))
          refine wpQuiet_nil ?_
          rintro _ ⟨y, rfl⟩
          have I2 := Lib.hid (I1.out.ext (by have := x.size; omega) y)
          clear p0 p1 p2 q0 q1 q2 HEQ
          cases eb
          · have HR1 : Hid (runsV l (j + 1) = j + 1) := Lib.hid (by rw [runsV, HKV.out, HRV.out]; rfl)
            go_wp2_with fail
            go_roundw
            case rel => exact ⟨j + 1, by omega, by omega, by go_num, HR1.out, Cls.of (y.on x.below x.size)⟩
            case measure => simp [intOf]; omega
          · have HR1 : Hid (runsV l (j + 1) = j) := Lib.hid (by rw [runsV, HKV.out, HRV.out]; rfl)
            have hcj : ¬ (cap = j) := by omega
            have hcj2 : ¬ (cap ≤ j) := by omega
            have I3 := Lib.hid (I2.out.mono (lo' := (j + 1 - 1) * 3) (Nat.zero_le _))
            go_wp2_with fail
            clear I1 I2 hcj hcj2
            generalize y.val = Y at *
            go_loopw [3, 5] (fun i3 i5 wr => ∃ m K : Nat, i3 = .int .i64 K ∧ i5 = .int .i64 m ∧ 1 ≤ m ∧ m ≤ n - j ∧ K ≤ j + m - 1 ∧ Hid (K = runsV l (j + m)) ∧ Hid (CInv base w g cur 39 ((j + m - 1) * 3) wr)) (fun _ i5 _ => n - j - (intOf i5).toNat)
            case atStart => exact ⟨1, j, rfl, rfl, Nat.le_refl _, by omega, by omega, Lib.hid HR1.out.symm, I3⟩
            case round =>
              obtain ⟨m, K, rfl, rfl, hm1, hm, hK, hKR, hI⟩ := hrel
              have hgw := hI.out.lt
              have hwb : base ≤ wr.heap.size := by have := hI.out.bel.size; omega
              by_cases hlt2 : m < n - j
              · obtain ⟨p0, p1, p2⟩ := HCV.out (j + m) (by omega)
                obtain ⟨q0, q1, q2⟩ := HCV.out (j + m - 1) (by omega)
                replace p0 := hI.out.read (by omega) p0
                replace p1 := hI.out.read (by omega) p1
                replace p2 := hI.out.read (by omega) p2
                replace q0 := hI.out.read (by omega) q0
                replace q1 := hI.out.read (by omega) q1
                replace q2 := hI.out.read (by omega) q2
                rw [show (j + m) * 3 = j * 3 + m * 3 by omega] at p0 p1 p2
                rw [show (j + m - 1) * 3 = j * 3 + (m - 1) * 3 by omega] at q0 q1 q2
                have HKV2 : Hid (keepV l (j + m) = !eqv (l.getD (j + m) Vl.z) (l.getD (j + m - 1) Vl.z)) := Lib.hid (by unfold keepV; simp; omega)
                have HRN : Hid (runsV l (j + (m + 1)) = runsV l (j + m) + (if keepV l (j + m) = true then 1 else 0)) := Lib.hid rfl
                generalize l.getD (j + m) Vl.z = u at *
                generalize l.getD (j + m - 1) Vl.z = t at *
                obtain ⟨uk2, un2, us2⟩ := u
                obtain ⟨tk2, tn2, ts2⟩ := t
                simp only at p0 p1 p2 q0 q1 q2
                have HEQ := eqIn_vl uk2 un2 us2 tk2 tn2 ts2
                generalize eqv ⟨uk2, un2, us2⟩ ⟨tk2, tn2, ts2⟩ = eb2 at *
                have hKn : K < n := by omega
                go_wp2_with fail
                refine wp_region_ext (by kernel_rfl) (by kernel_rfl) ?_
                repeat (go_big_quiet_step (fail))
                refine wpQuiet_nil ?_
                rintro _ ⟨y2, rfl⟩
                have I5 := Lib.hid (hI.out.ext hwb y2)
                obtain ⟨l1, l2, l3, l4, l5⟩ := y2.lts hgw
                obtain ⟨o0, s0⟩ := Option.isSome_iff_exists.1 (I5.out.some (o := K * 3) (by rw [hr]; omega))
                obtain ⟨o1, s1⟩ := Option.isSome_iff_exists.1 (I5.out.some (o := K * 3 + 1) (by rw [hr]; omega))
                obtain ⟨o2, s2⟩ := Option.isSome_iff_exists.1 (I5.out.some (o := K * 3 + 2) (by rw [hr]; omega))
                have f0 := I5.out.frozen (K * 3)
                have f1 := I5.out.frozen (K * 3 + 1)
                have f2 := I5.out.frozen (K * 3 + 2)
                have I6 := Lib.hid (((((I5.out.mono (lo' := (j + (m + 1) - 1) * 3) (by omega)).set hb (o := K * 3) (by omega) (.int .i64 uk2)).set hb (o := K * 3 + 1) (by omega) (.int .i64 un2)).set hb (o := K * 3 + 2) (by omega) (.string us2)))
                have I7 := Lib.hid (I5.out.mono (lo' := (j + (m + 1) - 1) * 3) (by omega))
                clear HEQ
                cases eb2
                · have HR2 : Hid (K + 1 = runsV l (j + (m + 1))) := Lib.hid (by rw [HRN.out, HKV2.out, hKR.out]; rfl)
                  go_wp2_with fail
                  go_roundw
                  case rel => exact ⟨m + 1, K + 1, by go_num, by go_num, by omega, by omega, by omega, HR2, I6⟩
                  case measure => simp [intOf]; omega
                · have HR2 : Hid (K = runsV l (j + (m + 1))) := Lib.hid (by rw [HRN.out, HKV2.out, hKR.out]; rfl)
                  clear p0 p1 p2 s0 s1 s2 f0 f1 f2
                  go_wp2_with fail
                  go_roundw
                  case rel => exact ⟨m + 1, K, rfl, by go_num, by omega, by omega, by omega, HR2, I7⟩
                  case measure => simp [intOf]; omega
              · have hKE : Hid (K = runsV l n) := Lib.hid (by have := hKR.out; rw [show j + m = n by omega] at this; exact this)
                have hKn : K < n := by omega
                obtain ⟨vs, hcl⟩ := run_clearK (P := Tryd.prog) wr 32 39 (.agg #[.int .i64 0, .int .i64 0, .string ⟨#[]⟩]) 3 Tryd.underlying32 (fun w => by kernel_rfl) rfl (by intro v hv; simp [Value.cells] at hv; rcases hv with rfl | rfl | rfl <;> rfl) g (K * 3) (n - K) (cap - K) (by omega) (fun i hi => hI.out.some (by rw [hr]; omega)) (fun i hi => hI.out.frozen _)
                have HBS : Hid (Below base w (wr.setCells g (K * 3) vs)) := Lib.hid (below_sets hb vs _ _ hI.out.bel)
                have hcK : ¬ (cap = K) := by omega
                clear hI hKR
                go_wp2_with fail
                go_ret
                first
                  | exact ⟨some ⟨g, 0, none⟩, cap, by rw [hKE.out]; rfl, HBS.out⟩
                  | exact ⟨⟨some ⟨g, 0, none⟩, cap, by rw [hKE.out]; rfl⟩, HBS.out⟩
        · have hjn : j = n := by omega
          have HRN : Hid (runsV l n = n) := Lib.hid (by rw [← hjn]; exact HRV.out)
          clear hjn
          go_wp2_with fail
          go_ret
          exact ⟨some ⟨g, 0, none⟩, cap, by rw [HRN.out]; rfl, x.below.mono hbase⟩
end Go.Proofs.YtpddkljedhghkaaDoor.BG
set_option linter.unusedVariables false
namespace Go.Proofs.YtpddkljedhghkaaDoor.BG
open Go Go.RowKit
theorem cmpL_one (a b : Vl) : cmpL [a] [b] = cmpW a b := by
  simp only [cmpL]
  split
  · rename_i h; rw [h]
  · rfl
theorem ones_asc {l : List Vl} (h : ascV l) : Asc (ones l) := by
  unfold ones Asc
  rw [List.pairwise_map]
  exact h.imp fun {a b} h => by rw [cmpL_one]; exact h
theorem ones_inj : ∀ {l m : List Vl}, ones l = ones m → l = m
  | [], [], _ => rfl
  | [], _ :: _, h => by simp [ones] at h
  | _ :: _, [], h => by simp [ones] at h
  | a :: l, b :: m, h => by
    simp only [ones, List.map_cons, List.cons.injEq, and_true] at h
    obtain ⟨rfl, h2⟩ := h
    rw [ones_inj (l := l) (m := m) h2]
theorem asc_rows {R : List Row} {l : List Vl} (h : R.Perm (ones l)) (hR : Asc R) (hl : ascV l) : R = ones l := asc_unique hR (ones_asc hl) fun r => h.count_eq r
theorem ascV_unique {l m : List Vl} (h : l.Perm m) (hl : ascV l) (hm : ascV m) : l = m := ones_inj (asc_rows (by unfold ones; exact h.map _) (ones_asc hl) hm)
/-- A sorted list with the same values. -/
def insV (v : Vl) : List Vl → List Vl
  | [] => [v]
  | x :: l => if cmpW v x ≤ 0 then v :: x :: l else x :: insV v l
def srtV : List Vl → List Vl
  | [] => []
  | v :: l => insV v (srtV l)
theorem insV_perm (v : Vl) : ∀ l, (insV v l).Perm (v :: l)
  | [] => List.Perm.refl _
  | x :: l => by
    rw [insV]
    split
    · exact List.Perm.refl _
    · exact ((insV_perm v l).cons x).trans (List.Perm.swap v x l)
theorem srtV_perm : ∀ l, (srtV l).Perm l
  | [] => List.Perm.refl _
  | v :: l => by
    rw [srtV]
    exact (insV_perm v (srtV l)).trans ((srtV_perm l).cons v)
theorem insV_asc (v : Vl) : ∀ l, ascV l → ascV (insV v l)
  | [], _ => by simp [insV, ascV]
  | x :: l, h => by
    obtain ⟨h1, h2⟩ := List.pairwise_cons.1 h
    rw [insV]
    by_cases hc : cmpW v x ≤ 0
    · rw [if_pos hc]
      refine List.pairwise_cons.2 ⟨fun y hy => ?_, h⟩
      rcases List.mem_cons.1 hy with rfl | hy
      · exact hc
      · exact cmpW_trans hc (h1 y hy)
    · rw [if_neg hc]
      refine List.pairwise_cons.2 ⟨fun y hy => ?_, insV_asc v l h2⟩
      rcases List.mem_cons.1 ((insV_perm v l).mem_iff.1 hy) with rfl | hy
      · have := cmpW_neg y x; omega
      · exact h1 y hy
theorem srtV_asc : ∀ l, ascV (srtV l)
  | [] => List.Pairwise.nil
  | v :: l => by rw [srtV]; exact insV_asc v _ (srtV_asc l)
theorem srtV_is {l m : List Vl} (h : l.Perm m) (hl : ascV l) : l = srtV m := ascV_unique (h.trans (srtV_perm m).symm) hl (srtV_asc m)
def headR (l : List Vl) : Nat → List Row
  | 0 => []
  | m + 1 => headR l m ++ (if keepV l m = true then [[l.getD m Vl.z]] else [])
theorem headR_len (l : List Vl) : ∀ m, (headR l m).length = runsV l m
  | 0 => rfl
  | m + 1 => by
    rw [headR, runsV, List.length_append, headR_len l m]
    split <;> rfl
theorem headR_count {l : List Vl} (h : ascV l) : ∀ m, m ≤ l.length → ∀ r : Row, (headR l m).count r = min (((ones l).take m).count r) 1
  | 0, _, r => by simp [headR]
  | m + 1, hm, r => by
    have ih := headR_count h m (by omega)
    have hml : m < (ones l).length := by simp [ones]; omega
    have ht : (ones l).take (m + 1) = (ones l).take m ++ [[l.getD m Vl.z]] := by
      rw [List.take_succ_eq_append_getElem hml]
      simp [ones, List.getD, show m < l.length by omega]
    rw [headR, ht, List.count_append, List.count_append, ih r]
    by_cases hk : keepV l m = true
    · rw [if_pos hk]
      by_cases hr : r = [l.getD m Vl.z]
      · subst hr
        have h0 : ((ones l).take m).count [l.getD m Vl.z] = 0 := by
          rw [List.count_eq_zero]
          intro hmem
          obtain ⟨i, hi, he⟩ := List.mem_iff_getElem.1 hmem
          rw [List.length_take] at hi
          have him : i < m := by omega
          have hv : l.getD i Vl.z = l.getD m Vl.z := by
            rw [List.getElem_take] at he
            simp only [ones, List.getElem_map, List.cons.injEq, and_true] at he
            rw [← he]
            simp [List.getD, show i < l.length by omega]
          have hgt : ∀ a b, a < b → b < l.length → cmpW (l.getD a Vl.z) (l.getD b Vl.z) ≤ 0 := fun a b hab hb => by
            have := (List.pairwise_iff_getElem.1 h) a b (by omega) hb hab
            simpa [List.getD, hb, show a < l.length by omega] using this
          have hlast : l.getD (m - 1) Vl.z = l.getD m Vl.z := by
            rcases Nat.lt_or_ge i (m - 1) with hi2 | hi2
            · have h1 := hgt i (m - 1) hi2 (by omega)
              have h2 := hgt (m - 1) m (by omega) (by omega)
              rw [hv] at h1
              have h3 := cmpW_neg (l.getD (m - 1) Vl.z) (l.getD m Vl.z)
              exact cmpW_zero (by omega)
            · rw [show m - 1 = i by omega]; exact hv
          unfold keepV at hk
          have he2 : eqv (l.getD m Vl.z) (l.getD (m - 1) Vl.z) = true := eqv_iff.2 hlast.symm
          rw [he2] at hk
          simp at hk
          omega
        rw [h0]
        simp
      · have hne : ([[l.getD m Vl.z]] : List Row).count r = 0 := by
          rw [List.count_eq_zero]
          simpa using hr
        rw [hne]
        simp
    · rw [if_neg hk]
      by_cases hr : r = [l.getD m Vl.z]
      · subst hr
        have hm0 : m ≠ 0 := by
          intro e; subst e
          exact hk (by simp [keepV])
        have he : l.getD m Vl.z = l.getD (m - 1) Vl.z := by
          unfold keepV at hk
          cases hq : eqv (l.getD m Vl.z) (l.getD (m - 1) Vl.z)
          · rw [hq] at hk; simp at hk
          · exact eqv_iff.1 hq
        have hmem : [l.getD m Vl.z] ∈ (ones l).take m := by
          rw [he]
          refine List.mem_iff_getElem.2 ⟨m - 1, by rw [List.length_take]; omega, ?_⟩
          rw [List.getElem_take]
          simp [ones, List.getD, show m - 1 < l.length by omega]
        have hp := List.count_pos_iff.2 hmem
        have h1 : ([[l.getD m Vl.z]] : List Row).count [l.getD m Vl.z] = 1 := by simp
        rw [h1, List.count_nil]
        omega
      · have hne : ([[l.getD m Vl.z]] : List Row).count r = 0 := by
          rw [List.count_eq_zero]
          simpa using hr
        rw [hne]
        simp
theorem runs_of {l : List Vl} {R : List Row} (h : ascV l) (hc : CombOf (repF false addF) (ones l) [] R) : R.length = runsV l l.length := by
  rw [← headR_len]
  refine (List.perm_iff_count.2 fun r => ?_).length_eq
  rw [hc.2 r, headR_count h l.length (Nat.le_refl _) r, List.take_of_length_le (by simp [ones])]
  simp [repF, addF]
/-- What an aggregate is, for n rows and the sorted values that are not null. -/
def aggF (f : Int) (n : Nat) (K : List Vl) : Vl :=
  if f = 1 then ⟨1, n, ⟨#[]⟩⟩ else if f = 2 then ⟨1, K.length, ⟨#[]⟩⟩ else if f = 3 then ⟨1, runsV K K.length, ⟨#[]⟩⟩ else if f = 4 then sumVl K
  else if f = 5 then (if K.length = 0 then Vl.z else K.getD 0 Vl.z) else if f = 6 then (if K.length = 0 then Vl.z else K.getD (K.length - 1) Vl.z) else Vl.z
end Go.Proofs.YtpddkljedhghkaaDoor.BG
