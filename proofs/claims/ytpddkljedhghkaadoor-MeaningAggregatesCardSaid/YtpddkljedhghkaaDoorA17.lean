/-
  The value of an aggregate over rows: the program's Aggregate. What the reference's Eval is asked to give.
-/
import Derived.Test.YtpddkljedhghkaaDoorA16
import Derived.Test.YtpddkljedhghkaaDoorA15
import Derived.Test.YtpddkljedhghkaaDoorA14
set_option linter.unusedVariables false
namespace Go.Proofs.YtpddkljedhghkaaDoor.BG
open Go Go.RowKit
theorem number_calls (n : Int) (w : World) : Calls Tryd.prog 66 #[.int .i64 n] w fun r w' => r = .returned (.agg (vlC ⟨1, n, ⟨#[]⟩⟩).toArray) ∧ Cls w w' := by
  go_enter Tryd.func66, Tryd.ntmps66
  go_wp2_with fail
  refine ret_ex rfl ?_
  simp [results, Tryd.results66, go_sem]
  exact ⟨rfl, Cls.of (by repeat first | with_reducible exact Below.refl _ _ | with_reducible refine Below.setCell ?_ (by first | omega | (simp; done) | (simp; omega)) _ | with_reducible refine Below.alloc ?_ (by first | omega | (simp; done) | (simp; omega)) _ | with_reducible refine Below.drew ?_ | with_reducible refine Ext.on _ ?_ (by first | omega | (simp; done) | (simp; omega)))⟩
theorem known2_calls (e : Ex) (ka : Option Addr) (kl kc : Nat) (ok : Nat → Prop) (a : Option Addr) (n c : Nat) (L : List (List Vl)) (w : World) (hk : Kids w ok ka kl kc e.kids) (hf : e.fine) (h : RL w a n c L) (hn : n ≤ 10000) (ho : OpsTab w) :
    Calls Tryd.prog 67 #[.agg #[.int .i64 e.op, .int .i64 e.ty, .int .i64 e.num, .string e.text, .int .i64 e.col, .slice ka kl kc], .slice a n c] w fun r w' => ∃ (a' : Option Addr) (c' : Nat), r = .returned (.slice a' (srtV (knownL e L)).length c') ∧ w'.ownsRow w.heap.size 39 3 (.slice a' (srtV (knownL e L)).length c') (srtV (knownL e L)).length (flatV (srtV (knownL e L))) ∧ Holds w' a' (srtV (knownL e L)).length (srtV (knownL e L)) ∧ (srtV (knownL e L)).length ≤ c' ∧ c' ≤ maxLen ∧ Cls w w' := by
  refine (known_calls e ka kl kc ok a n c L w hk hf h hn ho).mono fun r w' ⟨v, l, hr, hown, hp, ha, hc⟩ => ?_
  obtain rfl := srtV_is hp ha
  obtain ⟨a', c', rfl, h1, h2, h3⟩ := Holds.own hown
  refine ⟨a', c', hr, ⟨hown.1, hown.2.imp id ?_⟩, h3, h1, h2, hc⟩
  rintro ⟨g, cap, cur, hv, hg, rest⟩
  exact ⟨g, cap, cur, hv, by omega, rest⟩
theorem seven_z {W : World} {b : Nat} {a0 a1 a2 a3 a4 a5 a6 : Value} {t : TypeId} (h : W.heap[b]? = some (.cells #[a0, a1, a2, a3, a4, a5, a6] t)) : b < W.heap.size ∧ W.cell? ⟨b, 0, none⟩ = some a0 ∧ W.cell? ⟨b, 1, none⟩ = some a1 ∧ W.cell? ⟨b, 2, none⟩ = some a2 ∧ W.cell? ⟨b, 3, none⟩ = some a3 ∧ W.cell? ⟨b, 4, none⟩ = some a4 ∧ W.cell? ⟨b, 5, none⟩ = some a5 ∧ W.cell? ⟨b, 6, none⟩ = some a6 := by
  refine ⟨(Array.getElem?_eq_some_iff.1 h).1, ?_, ?_, ?_, ?_, ?_, ?_, ?_⟩
  all_goals
    rw [cell_of_row _ _ _ _ t (0, 0) h]
    rfl
theorem knownL_nOk {e : Ex} {L : List (List Vl)} (h : ∀ r ∈ L, nOk (evalE e r)) : ∀ v ∈ srtV (knownL e L), nOk v := by
  intro v hv
  have h1 := (srtV_perm (knownL e L)).mem_iff.1 hv
  unfold knownL at h1
  obtain ⟨h2, _⟩ := List.mem_filter.1 h1
  obtain ⟨r, hr, rfl⟩ := List.mem_map.1 h2
  exact h r hr
theorem RL.nOk {w : World} {a : Option Addr} {n c : Nat} {L : List (List Vl)} (h : RL w a n c L) {e : Ex} {ok : Nat → Prop} {ka : Option Addr} {kl kc : Nat} (hk : Kids w ok ka kl kc e.kids) (hf : e.fine) : ∀ r ∈ L, Go.Proofs.YtpddkljedhghkaaDoor.nOk (evalE e r) := by
  intro r hr
  obtain ⟨j, hj, rfl⟩ := List.mem_iff_getElem.1 hr
  obtain ⟨_, _, _, _, _, _, _, hrow⟩ := h.at_ j (by have := h.ln; omega)
  have he : L.getD j [] = L[j] := by simp [List.getD, hj]
  rw [he] at hrow
  exact evalE_n _ (h.ok _ hr) hrow.2.2.2.1 e w ok ka kl kc hk hf
set_option maxHeartbeats 16000000 in
set_option maxRecDepth 20000 in
theorem Aggregate_calls (f : Int) (e : Ex) (ka : Option Addr) (kl kc : Nat) (ok : Nat → Prop) (a : Option Addr) (n c : Nat) (L : List (List Vl)) (w : World) (hk : Kids w ok ka kl kc e.kids) (hf : e.fine) (h : RL w a n c L) (hn : n ≤ 10000) (ho : OpsTab w) :
    Calls Tryd.prog 25 #[.agg #[.int .i64 f, .int .i64 e.op, .int .i64 e.ty, .int .i64 e.num, .string e.text, .int .i64 e.col, .slice ka kl kc], .slice a n c] w fun r w' => r = .returned (.agg (vlC (aggF f n (srtV (knownL e L)))).toArray) ∧ Cls w w' := by
  have hkm := hk.max
  have hkl := hk.le
  have hnc := h.le
  have hcm := h.cp
  unfold maxLen at hkm hcm
  have CK : Hid (∀ W, Below w.heap.size w W → Calls Tryd.prog 67 #[.agg #[.int .i64 e.op, .int .i64 e.ty, .int .i64 e.num, .string e.text, .int .i64 e.col, .slice ka kl kc], .slice a n c] W fun r w' => ∃ (a' : Option Addr) (c' : Nat), r = .returned (.slice a' (srtV (knownL e L)).length c') ∧ w'.ownsRow W.heap.size 39 3 (.slice a' (srtV (knownL e L)).length c') (srtV (knownL e L)).length (flatV (srtV (knownL e L))) ∧ Holds w' a' (srtV (knownL e L)).length (srtV (knownL e L)) ∧ (srtV (knownL e L)).length ≤ c' ∧ c' ≤ maxLen ∧ Cls W w') := Lib.hid fun W hW => known2_calls e ka kl kc ok a n c L W (hk.later hW) hf (h.later hW) hn (ho.later hW)
  have HNK := Lib.hid (knownL_nOk (h.nOk hk hf))
  have hkn : (srtV (knownL e L)).length ≤ 10000 := by
    have h1 := (srtV_perm (knownL e L)).length_eq
    have h2 := knownL_len e L
    have := h.ln
    omega
  have CN : Hid (∀ (m : Int) W, Calls Tryd.prog 66 #[.int .i64 m] W fun r w' => r = .returned (.agg #[.int .i64 1, .int .i64 m, .string ⟨#[]⟩]) ∧ Cls W w') := Lib.hid number_calls
  have CS : Hid (∀ (a' : Option Addr) (c' : Nat) W, Holds W a' (srtV (knownL e L)).length (srtV (knownL e L)) → (srtV (knownL e L)).length ≤ c' → c' ≤ maxLen → Calls Tryd.prog 69 #[.slice a' (srtV (knownL e L)).length c'] W fun r w' => r = .returned (.agg (vlC (sumVl (srtV (knownL e L)))).toArray) ∧ Cls W w') := Lib.hid fun a' c' W h1 h2 h3 => sum_calls a' _ c' _ W h1 h2 h3 HNK.out
  have CC : Hid (∀ (base : Nat) (a' : Option Addr) (c' : Nat) W, base ≤ W.heap.size → W.ownsRow base 39 3 (.slice a' (srtV (knownL e L)).length c') (srtV (knownL e L)).length (flatV (srtV (knownL e L))) → Calls Tryd.prog 68 #[.slice a' (srtV (knownL e L)).length c'] W fun r w' => ∃ (a2 : Option Addr) (c2 : Nat), r = .returned (.slice a2 (runsV (srtV (knownL e L)) (srtV (knownL e L)).length) c2) ∧ Below base W w') := Lib.hid fun base a' c' W h1 h2 => Compact_calls base _ _ W h1 h2 hkn
  have hrun := runsV_le (srtV (knownL e L)) (srtV (knownL e L)).length
  have hag : ∀ v, aggF f n (srtV (knownL e L)) = v → aggF f n (srtV (knownL e L)) = v := fun _ h => h
  clear h hk hf ho hag
  generalize srtV (knownL e L) = K at *
  have hbl1 : ((w.alloc (.cells #[.int .i64 f, .int .i64 e.op, .int .i64 e.ty, .int .i64 e.num, .string e.text, .int .i64 e.col, .slice ka kl kc] 67)).alloc (.cells #[.int .i64 0, .int .i64 0, .string ⟨#[]⟩] 39)).heap[w.heap.size]? = some (.cells #[.int .i64 f, .int .i64 e.op, .int .i64 e.ty, .int .i64 e.num, .string e.text, .int .i64 e.col, .slice ka kl kc] 67) := by
    rw [(((Below.refl _ _).alloc (Nat.le_refl _) _) : Below (w.alloc (.cells #[.int .i64 f, .int .i64 e.op, .int .i64 e.ty, .int .i64 e.num, .string e.text, .int .i64 e.col, .slice ka kl kc] 67)).heap.size (w.alloc (.cells #[.int .i64 f, .int .i64 e.op, .int .i64 e.ty, .int .i64 e.num, .string e.text, .int .i64 e.col, .slice ka kl kc] 67)) ((w.alloc (.cells #[.int .i64 f, .int .i64 e.op, .int .i64 e.ty, .int .i64 e.num, .string e.text, .int .i64 e.col, .slice ka kl kc] 67)).alloc (.cells #[.int .i64 0, .int .i64 0, .string ⟨#[]⟩] 39))).block w.heap.size (by simp)]
    exact heap_alloc_new w _
  have hbl2 : ((w.alloc (.cells #[.int .i64 f, .int .i64 e.op, .int .i64 e.ty, .int .i64 e.num, .string e.text, .int .i64 e.col, .slice ka kl kc] 67)).alloc (.cells #[.int .i64 0, .int .i64 0, .string ⟨#[]⟩] 39)).heap[w.heap.size + 1]? = some (.cells #[.int .i64 0, .int .i64 0, .string ⟨#[]⟩] 39) := by
    have := heap_alloc_new (w.alloc (.cells #[.int .i64 f, .int .i64 e.op, .int .i64 e.ty, .int .i64 e.num, .string e.text, .int .i64 e.col, .slice ka kl kc] 67)) (.cells #[.int .i64 0, .int .i64 0, .string ⟨#[]⟩] 39)
    simpa using this
  have HBL1 := Lib.hid hbl1
  have HBL2 := Lib.hid hbl2
  have HB0 : Hid (Below w.heap.size w ((w.alloc (.cells #[.int .i64 f, .int .i64 e.op, .int .i64 e.ty, .int .i64 e.num, .string e.text, .int .i64 e.col, .slice ka kl kc] 67)).alloc (.cells #[.int .i64 0, .int .i64 0, .string ⟨#[]⟩] 39))) := Lib.hid (by repeat first | with_reducible exact Below.refl _ _ | with_reducible refine Below.setCell ?_ (by first | omega | (simp; done) | (simp; omega)) _ | with_reducible refine Below.alloc ?_ (by first | omega | (simp; done) | (simp; omega)) _ | with_reducible refine Below.drew ?_ | with_reducible refine Ext.on _ ?_ (by first | omega | (simp; done) | (simp; omega)))
  have h0s : ((w.alloc (.cells #[.int .i64 f, .int .i64 e.op, .int .i64 e.ty, .int .i64 e.num, .string e.text, .int .i64 e.col, .slice ka kl kc] 67)).alloc (.cells #[.int .i64 0, .int .i64 0, .string ⟨#[]⟩] 39)).heap.size ≥ w.heap.size + 2 := by simp
  clear hbl1 hbl2
  obtain ⟨z0, z1, z2, z3, z4, z5, z6⟩ := three_z HBL2.out
  have HAI : Hid (∀ v, aggF f n K = v → aggF f n K = v) := Lib.hid fun _ h => h
  by_cases h1 : f = 1
  · subst h1
    have HR : Hid (aggF 1 n K = ⟨1, n, ⟨#[]⟩⟩) := Lib.hid rfl
    go_enter Tryd.func25, Tryd.ntmps25
    go_wp2_with (go_at_call 66; ((with_reducible refine (CN.out _ _).mono ?_); rintro r _ ⟨rfl, t, rfl⟩; have ts := t.size; obtain ⟨q0, q1, q2, q3, q4, q5, q6⟩ := three_z ((t.below.block _ (by first | omega | (simp; omega))).trans HBL2.out)))
    refine ret_ex rfl ?_
    simp [results, Tryd.results25, go_sem, q4, q5, q6]
    exact ⟨by rw [HR.out]; try rfl, Cls.of (by (repeat first | with_reducible exact Below.refl _ _ | with_reducible refine Below.setCell ?_ (by first | omega | (simp; done) | (simp; omega)) _ | with_reducible refine Below.alloc ?_ (by first | omega | (simp; done) | (simp; omega)) _ | with_reducible refine Below.drew ?_ | with_reducible refine Ext.on _ ?_ (by first | omega | (simp; done) | (simp; omega))); try exact HB0.out)⟩
  by_cases h2 : f = 2
  · subst h2
    have HR : Hid (aggF 2 n K = ⟨1, K.length, ⟨#[]⟩⟩) := Lib.hid rfl
    go_enter Tryd.func25, Tryd.ntmps25
    go_wp2_with (first | (go_at_call 67; ((with_reducible refine (CK.out _ HB0.out).mono ?_); rintro r _ ⟨a', c', rfl, hown, hhold, hle', hmx', y, rfl⟩; have HOW := Lib.hid hown; have HHO := Lib.hid hhold; clear hown hhold; have ys := y.size; obtain ⟨m1, m2, m3, m4, m5⟩ := y.lts z0; have HY := Lib.hid ((y.below.block _ z0).trans HBL2.out); obtain ⟨g0, g1, g2, g3, g4, g5, g6⟩ := three_z HY.out)) | (go_at_call 66; ((with_reducible refine (CN.out _ _).mono ?_); rintro r _ ⟨rfl, t, rfl⟩; have ts := t.size; obtain ⟨q0, q1, q2, q3, q4, q5, q6⟩ := three_z ((t.below.block _ (by first | omega | (simp; omega))).trans HY.out))))
    refine ret_ex rfl ?_
    simp [results, Tryd.results25, go_sem, q4, q5, q6]
    exact ⟨by rw [HR.out]; try rfl, Cls.of (by (repeat first | with_reducible exact Below.refl _ _ | with_reducible refine Below.setCell ?_ (by first | omega | (simp; done) | (simp; omega)) _ | with_reducible refine Below.alloc ?_ (by first | omega | (simp; done) | (simp; omega)) _ | with_reducible refine Below.drew ?_ | with_reducible refine Ext.on _ ?_ (by first | omega | (simp; done) | (simp; omega))); try exact HB0.out)⟩
  by_cases h3 : f = 3
  · subst h3
    have HR : Hid (aggF 3 n K = ⟨1, runsV K K.length, ⟨#[]⟩⟩) := Lib.hid rfl
    go_enter Tryd.func25, Tryd.ntmps25
    go_wp2_with (first | (go_at_call 67; ((with_reducible refine (CK.out _ HB0.out).mono ?_); rintro r _ ⟨a', c', rfl, hown, hhold, hle', hmx', y, rfl⟩; have HOW := Lib.hid hown; have HHO := Lib.hid hhold; clear hown hhold; have ys := y.size; obtain ⟨m1, m2, m3, m4, m5⟩ := y.lts z0; have HY := Lib.hid ((y.below.block _ z0).trans HBL2.out); obtain ⟨g0, g1, g2, g3, g4, g5, g6⟩ := three_z HY.out)) | (go_at_call 68; ((with_reducible refine (CC.out _ a' c' _ ys HOW.out).mono ?_); rintro r w4 ⟨a2, c2, rfl, hb4⟩; have HB4 := Lib.hid hb4; clear hb4; have HW4 := Lib.hid ((HB4.out.block (w.heap.size + 1) (by first | omega | (simp; omega))).trans HY.out); obtain ⟨k0, k1, k2, k3, k4, k5, k6⟩ := three_z HW4.out)) | (go_at_call 66; ((with_reducible refine (CN.out _ _).mono ?_); rintro r _ ⟨rfl, t, rfl⟩; have ts := t.size; obtain ⟨q0, q1, q2, q3, q4, q5, q6⟩ := three_z ((t.below.block _ (by first | omega | (simp; omega))).trans HW4.out))))
    refine ret_ex rfl ?_
    simp [results, Tryd.results25, go_sem, q4, q5, q6]
    exact ⟨by rw [HR.out]; try rfl, Cls.of (by (repeat first | with_reducible exact Below.refl _ _ | with_reducible refine Below.setCell ?_ (by first | omega | (simp; done) | (simp; omega)) _ | with_reducible refine Below.alloc ?_ (by first | omega | (simp; done) | (simp; omega)) _ | with_reducible refine Below.drew ?_ | with_reducible refine Ext.on _ ?_ (by first | omega | (simp; done) | (simp; omega))); try exact (HB0.out.trans ((y.below.mono (by first | omega | (simp; omega))).trans (HB4.out.mono (by first | omega | (simp; omega))))))⟩
  by_cases h4 : f = 4
  · subst h4
    have HR : Hid (aggF 4 n K = sumVl K) := Lib.hid rfl
    have HSV : Hid (∃ sk sn ss, sumVl K = ⟨sk, sn, ss⟩) := Lib.hid ⟨_, _, _, rfl⟩
    generalize sumVl K = sv at *
    obtain ⟨sk, sn, ss⟩ := sv
    simp only [vlC] at CS
    go_enter Tryd.func25, Tryd.ntmps25
    go_wp2_with (first | (go_at_call 67; ((with_reducible refine (CK.out _ HB0.out).mono ?_); rintro r _ ⟨a', c', rfl, hown, hhold, hle', hmx', y, rfl⟩; have HOW := Lib.hid hown; have HHO := Lib.hid hhold; clear hown hhold; have ys := y.size; obtain ⟨m1, m2, m3, m4, m5⟩ := y.lts z0; have HY := Lib.hid ((y.below.block _ z0).trans HBL2.out); obtain ⟨g0, g1, g2, g3, g4, g5, g6⟩ := three_z HY.out)) | (go_at_call 69; ((with_reducible refine (CS.out a' c' _ HHO.out hle' hmx').mono ?_); rintro r _ ⟨rfl, t, rfl⟩; have ts := t.size; obtain ⟨q0, q1, q2, q3, q4, q5, q6⟩ := three_z ((t.below.block _ (by first | omega | (simp; omega))).trans HY.out))))
    refine ret_ex rfl ?_
    simp [results, Tryd.results25, go_sem, q4, q5, q6]
    exact ⟨by rw [HR.out]; try rfl, Cls.of (by (repeat first | with_reducible exact Below.refl _ _ | with_reducible refine Below.setCell ?_ (by first | omega | (simp; done) | (simp; omega)) _ | with_reducible refine Below.alloc ?_ (by first | omega | (simp; done) | (simp; omega)) _ | with_reducible refine Below.drew ?_ | with_reducible refine Ext.on _ ?_ (by first | omega | (simp; done) | (simp; omega))); try exact HB0.out)⟩
  by_cases h5 : f = 5
  · subst h5
    by_cases hk0 : K.length = 0
    · have HR : Hid (aggF 5 n K = Vl.z) := Lib.hid (by show (if K.length = 0 then Vl.z else K.getD 0 Vl.z) = Vl.z; rw [if_pos hk0])
      rw [hk0] at CK
      have hk1 : True := trivial
      go_enter Tryd.func25, Tryd.ntmps25
      go_wp2_with (first | (go_at_call 67; ((with_reducible refine (CK.out _ HB0.out).mono ?_); rintro r _ ⟨a', c', rfl, hown, hhold, hle', hmx', y, rfl⟩; have HOW := Lib.hid hown; have HHO := Lib.hid hhold; clear hown hhold; have ys := y.size; obtain ⟨m1, m2, m3, m4, m5⟩ := y.lts z0; have HY := Lib.hid ((y.below.block _ z0).trans HBL2.out); obtain ⟨g0, g1, g2, g3, g4, g5, g6⟩ := three_z HY.out)))
      refine ret_ex rfl ?_
      simp [results, Tryd.results25, go_sem, g4, g5, g6]
      exact ⟨by rw [HR.out]; try rfl, Cls.of (by (repeat first | with_reducible exact Below.refl _ _ | with_reducible refine Below.setCell ?_ (by first | omega | (simp; done) | (simp; omega)) _ | with_reducible refine Below.alloc ?_ (by first | omega | (simp; done) | (simp; omega)) _ | with_reducible refine Below.drew ?_ | with_reducible refine Ext.on _ ?_ (by first | omega | (simp; done) | (simp; omega))); try exact HB0.out)⟩
    · have HR : Hid (aggF 5 n K = K.getD 0 Vl.z) := Lib.hid (by show (if K.length = 0 then Vl.z else K.getD 0 Vl.z) = _; rw [if_neg hk0])
      have hkp : 0 < K.length := by omega
      have d0 : ((K.length : Int) == 0) = false := by rw [beq_eq_false_iff_ne]; omega
      go_enter Tryd.func25, Tryd.ntmps25
      go_wp2_with (first | (go_at_call 67; ((with_reducible refine (CK.out _ HB0.out).mono ?_); rintro r _ ⟨a', c', rfl, hown, hhold, hle', hmx', y, rfl⟩; have HOW := Lib.hid hown; have HHO := Lib.hid hhold; clear hown hhold; have ys := y.size; obtain ⟨m1, m2, m3, m4, m5⟩ := y.lts z0; have HY := Lib.hid ((y.below.block _ z0).trans HBL2.out); obtain ⟨g0, g1, g2, g3, g4, g5, g6⟩ := three_z HY.out; obtain ⟨b, off, ea, hb, hcell⟩ := HHO.out.2.resolve_left (by omega); obtain ⟨p0, p1, p2⟩ := hcell 0 (by omega); clear hcell; generalize K.getD 0 Vl.z = kv at *; obtain ⟨kk, kn, ks⟩ := kv; subst ea; simp only [Nat.zero_mul, Nat.add_zero] at p0 p1 p2)))
      refine ret_ex rfl ?_
      simp [results, Tryd.results25, go_sem, g4, g5, g6]
      exact ⟨by rw [HR.out]; try rfl, Cls.of (by (repeat first | with_reducible exact Below.refl _ _ | with_reducible refine Below.setCell ?_ (by first | omega | (simp; done) | (simp; omega)) _ | with_reducible refine Below.alloc ?_ (by first | omega | (simp; done) | (simp; omega)) _ | with_reducible refine Below.drew ?_ | with_reducible refine Ext.on _ ?_ (by first | omega | (simp; done) | (simp; omega))); try exact HB0.out)⟩
  by_cases h6 : f = 6
  · subst h6
    by_cases hk0 : K.length = 0
    · have HR : Hid (aggF 6 n K = Vl.z) := Lib.hid (by show (if K.length = 0 then Vl.z else K.getD (K.length - 1) Vl.z) = Vl.z; rw [if_pos hk0])
      rw [hk0] at CK
      have hk1 : True := trivial
      go_enter Tryd.func25, Tryd.ntmps25
      go_wp2_with (first | (go_at_call 67; ((with_reducible refine (CK.out _ HB0.out).mono ?_); rintro r _ ⟨a', c', rfl, hown, hhold, hle', hmx', y, rfl⟩; have HOW := Lib.hid hown; have HHO := Lib.hid hhold; clear hown hhold; have ys := y.size; obtain ⟨m1, m2, m3, m4, m5⟩ := y.lts z0; have HY := Lib.hid ((y.below.block _ z0).trans HBL2.out); obtain ⟨g0, g1, g2, g3, g4, g5, g6⟩ := three_z HY.out)))
      refine ret_ex rfl ?_
      simp [results, Tryd.results25, go_sem, g4, g5, g6]
      exact ⟨by rw [HR.out]; try rfl, Cls.of (by (repeat first | with_reducible exact Below.refl _ _ | with_reducible refine Below.setCell ?_ (by first | omega | (simp; done) | (simp; omega)) _ | with_reducible refine Below.alloc ?_ (by first | omega | (simp; done) | (simp; omega)) _ | with_reducible refine Below.drew ?_ | with_reducible refine Ext.on _ ?_ (by first | omega | (simp; done) | (simp; omega))); try exact HB0.out)⟩
    · have HR : Hid (aggF 6 n K = K.getD (K.length - 1) Vl.z) := Lib.hid (by show (if K.length = 0 then Vl.z else K.getD (K.length - 1) Vl.z) = _; rw [if_neg hk0])
      have hkp : 0 < K.length := by omega
      have d0 : ((K.length : Int) == 0) = false := by rw [beq_eq_false_iff_ne]; omega
      go_enter Tryd.func25, Tryd.ntmps25
      go_wp2_with (first | (go_at_call 67; ((with_reducible refine (CK.out _ HB0.out).mono ?_); rintro r _ ⟨a', c', rfl, hown, hhold, hle', hmx', y, rfl⟩; have HOW := Lib.hid hown; have HHO := Lib.hid hhold; clear hown hhold; have ys := y.size; obtain ⟨m1, m2, m3, m4, m5⟩ := y.lts z0; have HY := Lib.hid ((y.below.block _ z0).trans HBL2.out); obtain ⟨g0, g1, g2, g3, g4, g5, g6⟩ := three_z HY.out; obtain ⟨b, off, ea, hb, hcell⟩ := HHO.out.2.resolve_left (by omega); obtain ⟨p0, p1, p2⟩ := hcell (K.length - 1) (by omega); clear hcell; generalize K.getD (K.length - 1) Vl.z = kv at *; obtain ⟨kk, kn, ks⟩ := kv; subst ea; simp only [] at p0 p1 p2)))
      refine ret_ex rfl ?_
      simp [results, Tryd.results25, go_sem, g4, g5, g6]
      exact ⟨by rw [HR.out]; try rfl, Cls.of (by (repeat first | with_reducible exact Below.refl _ _ | with_reducible refine Below.setCell ?_ (by first | omega | (simp; done) | (simp; omega)) _ | with_reducible refine Below.alloc ?_ (by first | omega | (simp; done) | (simp; omega)) _ | with_reducible refine Below.drew ?_ | with_reducible refine Ext.on _ ?_ (by first | omega | (simp; done) | (simp; omega))); try exact HB0.out)⟩
  have HR : Hid (aggF f n K = Vl.z) := Lib.hid (by
    unfold aggF
    rw [if_neg h1, if_neg h2, if_neg h3, if_neg h4, if_neg h5, if_neg h6])
  have d1 : (f == 1) = false := by simp [h1]
  have d2 : (f == 2) = false := by simp [h2]
  have d3 : (f == 3) = false := by simp [h3]
  have d4 : (f == 4) = false := by simp [h4]
  have d5 : (f == 5) = false := by simp [h5]
  have d6 : (f == 6) = false := by simp [h6]
  clear h1 h2 h3 h4 h5 h6
  go_enter Tryd.func25, Tryd.ntmps25
  go_wp2_with fail
  refine ret_ex rfl ?_
  simp [results, Tryd.results25, go_sem, z4, z5, z6]
  exact ⟨by rw [HR.out]; try rfl, Cls.of (by (repeat first | with_reducible exact Below.refl _ _ | with_reducible refine Below.setCell ?_ (by first | omega | (simp; done) | (simp; omega)) _ | with_reducible refine Below.alloc ?_ (by first | omega | (simp; done) | (simp; omega)) _ | with_reducible refine Below.drew ?_ | with_reducible refine Ext.on _ ?_ (by first | omega | (simp; done) | (simp; omega))); try exact HB0.out)⟩
end Go.Proofs.YtpddkljedhghkaaDoor.BG
set_option linter.unusedVariables false
namespace Go.Proofs.YtpddkljedhghkaaDoor
open Go Go.RowKit
theorem infoVl : (Tryd.prog.info? 39).map (fun i => (i.zero, i.size, i.bytes)) = some (some (.agg #[.int .i64 0, .int .i64 0, .string ⟨#[]⟩]), 3, 32) := by kernel_rfl
theorem Vl.one (r : Vl) : ∀ u ∈ r.cells, u.oneCell' = true := by
  intro u h
  simp only [Vl.cells, List.mem_cons, List.not_mem_nil, or_false] at h
  rcases h with rfl | rfl | rfl <;> rfl
theorem take_mapV {l : List Ex} {j : Nat} (row : List Vl) (h : j < l.length) : (l.take (j + 1)).map (evalE · row) = (l.take j).map (evalE · row) ++ [evalE (l.getD j Ex.z) row] := by
  rw [List.take_succ_eq_append_getElem h, List.map_append]
  simp [List.getD, h]
/-- What the reference's Eval gives for e, whatever the row and the world. -/
def REvalOf (e : Ex) : Prop := ∀ (a : Option Addr) (len cap : Nat) (ok : Nat → Prop) (ra : Option Addr) (rlen rcap : Nat) (row : List Vl) (w : World), Kids w ok a len cap e.kids → e.fine → Slim e → RowIs w ra rlen rcap row →
    Calls Tryd.prog 14 #[.agg #[.int .i64 e.op, .int .i64 e.ty, .int .i64 e.num, .string e.text, .int .i64 e.col, .slice a len cap], .slice ra rlen rcap] w fun r w' => r = .returned (.agg #[.int .i64 (evalE e row).k, .int .i64 (evalE e row).n, .string (evalE e row).s]) ∧ Cls w w'
end Go.Proofs.YtpddkljedhghkaaDoor
