/-
  A table with its rows examined.
-/
import Derived.Test.YtdmhmlnfoocnjaaGreatDoorK37
import Derived.Test.YtdmhmlnfoocnjaaGreatDoorK35
import Derived.Test.YtdmhmlnfoocnjaaGreatDoorK36
set_option linter.unusedVariables false
namespace Go.Proofs.YtdmhmlnfoocnjaaGreatDoor
open Go Go.RowKit Go.Deep
set_option maxHeartbeats 4000000 in
theorem badFn_calls (v : Vio) (w : World) : Calls Tryz.prog 83 #[.agg #[.int .i64 v.k, .int .i64 v.t, .int .i64 v.i, .int .i64 v.r, .int .i64 v.o]] w fun r w' => r = .returned (.bool (badO v)) ∧ Cls w w' := by
  obtain ⟨vk, vt, vi, vr, vo⟩ := v
  have hb : badO ⟨vk, vt, vi, vr, vo⟩ = (vk == 1 || vk == 2) := rfl
  rw [hb]
  cases h1 : (vk == 1)
  · go_enter Tryz.func83, Tryz.ntmps83
    go_wp2_with fail
    go_ret
    refine ⟨ret_bool (by simp), Cls.of ?_⟩
    repeat first|with_reducible exact Below.refl _ _|with_reducible refine Below.setCell ?_ (by first|omega|(simp;done)|(simp;omega)) _|with_reducible refine Below.alloc ?_ (by first|omega|(simp;done)|(simp;omega)) _|with_reducible refine Below.drew ?_|with_reducible refine Ext.on _ ?_ (by first|omega|(simp;done)|(simp;omega))
  · go_enter Tryz.func83, Tryz.ntmps83
    go_wp2_with fail
    go_ret
    refine ⟨ret_bool (by simp), Cls.of ?_⟩
    repeat first|with_reducible exact Below.refl _ _|with_reducible refine Below.setCell ?_ (by first|omega|(simp;done)|(simp;omega)) _|with_reducible refine Below.alloc ?_ (by first|omega|(simp;done)|(simp;omega)) _|with_reducible refine Below.drew ?_|with_reducible refine Ext.on _ ?_ (by first|omega|(simp;done)|(simp;omega))
def badP (L : List Vio) (i : Nat) : Bool := badO (L.getD i ⟨0, 0, 0, 0, 0⟩)
theorem badP_any : ∀ (L : List Vio), decide (0 ≤ idx (badP L) 0 L.length) = L.any badO := by
  intro L
  cases h : L.any badO
  · rw [decide_eq_false_iff_not]
    intro h2
    have h3 := (idx_none (p := badP L) L.length 0).2 fun i _ hi => by
      have h4 := List.any_eq_false.1 h (L.getD i ⟨0, 0, 0, 0, 0⟩) (by simp [List.getD, show i < L.length by omega])
      unfold badP
      simpa using h4
    omega
  · rw [decide_eq_true_eq]
    obtain ⟨x, hx, hb⟩ := List.any_eq_true.1 h
    obtain ⟨i, hi, rfl⟩ := List.mem_iff_getElem.1 hx
    exact (idx_le L.length 0 i (Nat.zero_le _) (by omega) (by unfold badP; simpa [List.getD, hi] using hb)).1
set_option maxHeartbeats 4000000 in
set_option maxRecDepth 20000 in
theorem indexO_calls (a : Option Addr) (n c : Nat) (L : List Vio) (base : Nat) (w : World) (h : OwnO w base (.slice a n c) L) :
    Calls Tryz.prog 115 #[.slice a n c, .func (.func 83) #[] #[]] w fun r w' => r = .returned (.int .i64 (idx (badP L) 0 n)) ∧ Cls w w' := by
  obtain ⟨hn, hle, hmax, hat⟩ := h.at_
  unfold maxLen at hmax
  have H := Lib.hid hat
  have HP : Hid (∀ j W, Calls Tryz.prog 83 #[.agg #[.int .i64 (L.getD j ⟨0, 0, 0, 0, 0⟩).k, .int .i64 (L.getD j ⟨0, 0, 0, 0, 0⟩).t, .int .i64 (L.getD j ⟨0, 0, 0, 0, 0⟩).i, .int .i64 (L.getD j ⟨0, 0, 0, 0, 0⟩).r, .int .i64 (L.getD j ⟨0, 0, 0, 0, 0⟩).o]] W fun r w' => r = .returned (.bool (badP L j)) ∧ Cls W w') := Lib.hid fun j W => badFn_calls _ W
  clear h hat hn
  generalize badP L = bp at *
  go_enter Tryz.func115, Tryz.ntmps115
  go_wp2_with fail
  go_loopw [8] (fun i wr => ∃ j : Nat, j ≤ n ∧ i = .int .i64 j ∧ idx bp 0 n = idx bp j (n - j) ∧ Cls w wr) (fun i _ => n - (intOf i).toNat)
  case atStart => exact ⟨0, Nat.zero_le _, rfl, rfl, Cls.of (Below.refl _ _)⟩
  case round =>
    obtain ⟨j, hj, rfl, he, x, rfl⟩ := hrel
    have HE := Lib.hid he
    clear he
    by_cases hlt : j < n
    · obtain ⟨g, ha, _, hb, q0, q1, q2, q3, q4⟩ := H.out j hlt
      subst ha
      have hS : Hid (n - j = (n - (j + 1)) + 1) := Lib.hid (by omega)
      have C1 := Lib.hid (HP.out j)
      clear HP
      generalize L.getD j ⟨0, 0, 0, 0, 0⟩ = v at *
      obtain ⟨vk, vt, vi, vr, vo⟩ := v
      simp only at q0 q1 q2 q3 q4 C1
      cases hbb : bp j
      all_goals
        have HB := Lib.hid hbb
        rw [hbb] at C1
        clear hbb
        go_wp2_with (go_at_call 83; ((with_reducible refine (C1.out _).mono ?_); rintro r _ ⟨rfl, y, rfl⟩))
      · go_roundw
        case rel => exact ⟨j + 1, by omega, by go_num, by rw [HE.out, hS.out, idx_go HB.out], Cls.of (y.on x.below x.size)⟩
        case measure => simp [intOf]; omega
      · go_ret
        exact ⟨ret_int (by rw [HE.out, hS.out, idx_stop HB.out]), Cls.of (y.on x.below x.size)⟩
    · have hz : Hid (n - j = 0) := Lib.hid (by omega)
      go_wp2_with fail
      go_ret
      exact ⟨ret_int (by rw [HE.out, hz.out]; rfl), x, rfl⟩
set_option maxHeartbeats 4000000 in
theorem containsO_calls (a : Option Addr) (n c : Nat) (L : List Vio) (base : Nat) (w : World) (h : OwnO w base (.slice a n c) L) :
    Calls Tryz.prog 82 #[.slice a n c, .func (.func 83) #[] #[]] w fun r w' => r = .returned (.bool (L.any badO)) ∧ Cls w w' := by
  have C1 := Lib.hid (indexO_calls a n c L base w h)
  have hn := h.at_.1
  have hp := badP_any L
  rw [← hn] at hp
  rw [← hp]
  clear h hn hp
  generalize idx (badP L) 0 n = m at C1 ⊢
  go_enter Tryz.func82, Tryz.ntmps82
  go_wp2_with (go_at_call 115; ((with_reducible refine C1.out.mono ?_); rintro r _ ⟨rfl, y, rfl⟩))
  go_ret
  exact ⟨ret_bool (by simp), y, rfl⟩
theorem nine_z {W : World} {b : Nat} {a0 a1 a2 a3 a4 a5 a6 a7 a8 : Value} {t : TypeId} (h : W.heap[b]? = some (.cells #[a0, a1, a2, a3, a4, a5, a6, a7, a8] t)) :
    b < W.heap.size ∧ W.frozen? ⟨b, 0, none⟩ = false ∧ W.frozen? ⟨b, 1, none⟩ = false ∧ W.frozen? ⟨b, 2, none⟩ = false ∧ W.frozen? ⟨b, 3, none⟩ = false ∧ W.frozen? ⟨b, 4, none⟩ = false ∧ W.frozen? ⟨b, 5, none⟩ = false ∧ W.frozen? ⟨b, 6, none⟩ = false ∧ W.frozen? ⟨b, 7, none⟩ = false ∧ W.frozen? ⟨b, 8, none⟩ = false ∧ W.cell? ⟨b, 0, none⟩ = some a0 ∧ W.cell? ⟨b, 1, none⟩ = some a1 ∧ W.cell? ⟨b, 2, none⟩ = some a2 ∧ W.cell? ⟨b, 3, none⟩ = some a3 ∧ W.cell? ⟨b, 4, none⟩ = some a4 ∧ W.cell? ⟨b, 5, none⟩ = some a5 ∧ W.cell? ⟨b, 6, none⟩ = some a6 ∧ W.cell? ⟨b, 7, none⟩ = some a7 ∧ W.cell? ⟨b, 8, none⟩ = some a8 := by
  refine ⟨(Array.getElem?_eq_some_iff.1 h).1, free_z h _, free_z h _, free_z h _, free_z h _, free_z h _, free_z h _, free_z h _, free_z h _, free_z h _, ?_, ?_, ?_, ?_, ?_, ?_, ?_, ?_, ?_⟩
  all_goals
    rw [cell_of_row _ _ _ _ _ (0, 0) h]
    rfl
theorem OwnO.setCell {w : World} {base : Nat} {v : Value} {L : List Vio} (h : OwnO w base v L) (p : Addr) (hp : p.block < base) (u : Value) : OwnO (w.setCell p u) base v L :=
  OwnO.kept h (row := some p.block) ⟨rfl, rfl, rfl, by simp [World.setCell], fun k _ hk => heap_setCell_other w p k u (fun e => hk (by simp [e]))⟩ (by
    rcases hb : v.ownBlock with _ | g
    · exact .inl rfl
    · refine .inr fun e => ?_
      have := (h.lt g hb).1
      have e2 := Option.some.inj e
      omega)
set_option maxHeartbeats 16000000 in
set_option maxRecDepth 20000 in
theorem examinedTable_calls (t : Tb) (s : Sl) (r : Nat → Sl) (f : Nat → Nat → Vl) (w : World) (h : TbAt w t) (hr : RwsAt w s r f) (h8 : t.cs.len ≤ 8) (hs : s.len ≤ 10000) :
    Calls Tryz.prog 49 #[.agg #[.string t.name, .slice t.cs.a t.cs.len t.cs.cap, .slice t.ps.a t.ps.len t.ps.cap, .slice t.us.a t.us.len t.us.cap, .slice t.fs.a t.fs.len t.fs.cap, .slice t.ks.a t.ks.len t.ks.cap], .slice s.a s.len s.cap] w fun e w' => ∃ v, e = .returned (.agg #[.string t.name, .slice t.cs.a t.cs.len t.cs.cap, .slice t.ps.a t.ps.len t.ps.cap, .slice t.us.a t.us.len t.us.cap, .slice t.fs.a t.fs.len t.fs.cap, .slice t.ks.a t.ks.len t.ks.cap, .slice s.a s.len s.cap, v, .bool (fitO t r f s.len)]) ∧ OwnO w' (w.heap.size + 2) v (rowsO t r f s.len) ∧ Cls w w' := by
  have hle := hr.rows.1
  have hmax := hr.rows.2.1
  unfold maxLen at hmax
  have HRW := Lib.hid hr.rows.2.2.2
  have C1 : Hid (∀ j, j < s.len → ∀ W, Below w.heap.size w W → Calls Tryz.prog 81 #[.agg #[.string t.name, .slice t.cs.a t.cs.len t.cs.cap, .slice t.ps.a t.ps.len t.ps.cap, .slice t.us.a t.us.len t.us.cap, .slice t.fs.a t.fs.len t.fs.cap, .slice t.ks.a t.ks.len t.ks.cap], .slice (r j).a (r j).len (r j).cap] W fun e w' => ∃ v, e = .returned v ∧ OwnO w' (W.heap.size + 1) v (rowO t (r j).len (f j)) ∧ Cls W w') := Lib.hid fun j hj W hW => inRow_calls t (r j) (f j) W (h.later hW) ((hr.vals j hj).later hW) (hr.txt j hj) h8
  have HLN : Hid (∀ j, (rowO t (r j).len (f j)).length ≤ 8) := Lib.hid fun j => rowO_len t _ _ h8
  have HLR : Hid (∀ j, (rowsO t r f j).length ≤ j * 8) := Lib.hid fun j => rowsO_len t r f j h8
  have HR0 : Hid (rowsO t r f 0 = []) := Lib.hid rfl
  have HRN : Hid (∀ j, rowsO t r f (j + 1) = rowsO t r f j ++ (rowO t (r j).len (f j)).map (Vio.row (j : Nat))) := Lib.hid fun j => rfl
  have HFB : Hid (∀ n, fitO t r f n = !(rowsO t r f n).any badO) := Lib.hid fun n => rfl
  clear h hr h8
  generalize hro : (fun j => rowO t (r j).len (f j)) = ro at *
  have hro2 : ∀ j, rowO t (r j).len (f j) = ro j := fun j => by rw [← hro]
  simp only [hro2] at C1 HLN HRN
  clear hro2 hro
  generalize rowsO t r f = rs at *
  generalize fitO t r f = fb at *
  obtain ⟨tn, ⟨ca, cn, cc⟩, tf, tps, tprim, tus, tuq, tuqn, tfs, tfk, tfkn, tfkt, tks, tch⟩ := t
  obtain ⟨sa, sn, sc⟩ := s
  simp only at hle hmax HRW C1 hs ⊢
  go_enter Tryz.func49, Tryz.ntmps49
  go_wp2_with fail
  have hbl1 : ((w.alloc (.cells #[.string tn, .slice ca cn cc, .slice tps.a tps.len tps.cap, .slice tus.a tus.len tus.cap, .slice tfs.a tfs.len tfs.cap, .slice tks.a tks.len tks.cap] 55)).alloc (.cells #[.string ⟨#[]⟩, .slice none 0 0, .slice none 0 0, .slice none 0 0, .slice none 0 0, .slice none 0 0, .slice none 0 0, .slice none 0 0, .bool false] 98)).heap[w.heap.size]? = some (.cells #[.string tn, .slice ca cn cc, .slice tps.a tps.len tps.cap, .slice tus.a tus.len tus.cap, .slice tfs.a tfs.len tfs.cap, .slice tks.a tks.len tks.cap] 55) := by
    rw [(((Below.refl _ _).alloc (Nat.le_refl _) _) : Below (w.alloc (.cells #[.string tn, .slice ca cn cc, .slice tps.a tps.len tps.cap, .slice tus.a tus.len tus.cap, .slice tfs.a tfs.len tfs.cap, .slice tks.a tks.len tks.cap] 55)).heap.size (w.alloc (.cells #[.string tn, .slice ca cn cc, .slice tps.a tps.len tps.cap, .slice tus.a tus.len tus.cap, .slice tfs.a tfs.len tfs.cap, .slice tks.a tks.len tks.cap] 55)) ((w.alloc (.cells #[.string tn, .slice ca cn cc, .slice tps.a tps.len tps.cap, .slice tus.a tus.len tus.cap, .slice tfs.a tfs.len tfs.cap, .slice tks.a tks.len tks.cap] 55)).alloc (.cells #[.string ⟨#[]⟩, .slice none 0 0, .slice none 0 0, .slice none 0 0, .slice none 0 0, .slice none 0 0, .slice none 0 0, .slice none 0 0, .bool false] 98))).block w.heap.size (by simp)]
    exact heap_alloc_new w _
  have hbl2 : ((w.alloc (.cells #[.string tn, .slice ca cn cc, .slice tps.a tps.len tps.cap, .slice tus.a tus.len tus.cap, .slice tfs.a tfs.len tfs.cap, .slice tks.a tks.len tks.cap] 55)).alloc (.cells #[.string ⟨#[]⟩, .slice none 0 0, .slice none 0 0, .slice none 0 0, .slice none 0 0, .slice none 0 0, .slice none 0 0, .slice none 0 0, .bool false] 98)).heap[w.heap.size + 1]? = some (.cells #[.string ⟨#[]⟩, .slice none 0 0, .slice none 0 0, .slice none 0 0, .slice none 0 0, .slice none 0 0, .slice none 0 0, .slice none 0 0, .bool false] 98) := by
    have := heap_alloc_new (w.alloc (.cells #[.string tn, .slice ca cn cc, .slice tps.a tps.len tps.cap, .slice tus.a tus.len tus.cap, .slice tfs.a tfs.len tfs.cap, .slice tks.a tks.len tks.cap] 55)) (.cells #[.string ⟨#[]⟩, .slice none 0 0, .slice none 0 0, .slice none 0 0, .slice none 0 0, .slice none 0 0, .slice none 0 0, .slice none 0 0, .bool false] 98)
    simpa using this
  have HBL1 := Lib.hid hbl1
  have HBL2 := Lib.hid hbl2
  have HB0 : Hid (Below w.heap.size w ((w.alloc (.cells #[.string tn, .slice ca cn cc, .slice tps.a tps.len tps.cap, .slice tus.a tus.len tus.cap, .slice tfs.a tfs.len tfs.cap, .slice tks.a tks.len tks.cap] 55)).alloc (.cells #[.string ⟨#[]⟩, .slice none 0 0, .slice none 0 0, .slice none 0 0, .slice none 0 0, .slice none 0 0, .slice none 0 0, .slice none 0 0, .bool false] 98))) := Lib.hid (by repeat first|with_reducible exact Below.refl _ _|with_reducible refine Below.setCell ?_ (by first|omega|(simp;done)|(simp;omega)) _|with_reducible refine Below.alloc ?_ (by first|omega|(simp;done)|(simp;omega)) _|with_reducible refine Below.drew ?_|with_reducible refine Ext.on _ ?_ (by first|omega|(simp;done)|(simp;omega)))
  have h0s : ((w.alloc (.cells #[.string tn, .slice ca cn cc, .slice tps.a tps.len tps.cap, .slice tus.a tus.len tus.cap, .slice tfs.a tfs.len tfs.cap, .slice tks.a tks.len tks.cap] 55)).alloc (.cells #[.string ⟨#[]⟩, .slice none 0 0, .slice none 0 0, .slice none 0 0, .slice none 0 0, .slice none 0 0, .slice none 0 0, .slice none 0 0, .bool false] 98)).heap.size = w.heap.size + 2 := by simp
  clear hbl1 hbl2
  generalize ((w.alloc (.cells #[.string tn, .slice ca cn cc, .slice tps.a tps.len tps.cap, .slice tus.a tus.len tus.cap, .slice tfs.a tfs.len tfs.cap, .slice tks.a tks.len tks.cap] 55)).alloc (.cells #[.string ⟨#[]⟩, .slice none 0 0, .slice none 0 0, .slice none 0 0, .slice none 0 0, .slice none 0 0, .slice none 0 0, .slice none 0 0, .bool false] 98)) = W0 at *
  go_loopw [5, 13] (fun u i wr => ∃ (j : Nat) (l : List Vio), j ≤ sn ∧ i = .int .i64 j ∧ OwnO wr (w.heap.size + 2) u l ∧ l = rs j ∧ Cls W0 wr) (fun _ i _ => sn - (intOf i).toNat)
  case atStart => exact ⟨0, [], Nat.zero_le _, rfl, OwnO.nil _ _, HR0.out.symm, Cls.of (Below.refl _ _)⟩
  case round =>
    obtain ⟨j, l, hj, rfl, hown, hl, x, rfl⟩ := hrel
    have HO := Lib.hid hown
    have HL := Lib.hid hl
    have hln : l.length ≤ 80000 := by have := HLR.out j; rw [hl]; omega
    clear hown hl
    have xs := x.size
    have HBX : Hid (Below w.heap.size w x.val) := Lib.hid (HB0.out.trans (x.below.mono (by omega)))
    have HX0 : Hid (Below W0.heap.size W0 x.val) := Lib.hid x.below
    have HT1 := Lib.hid ((x.below.block _ (by omega)).trans HBL1.out)
    have HT2 := Lib.hid ((x.below.block _ (by omega)).trans HBL2.out)
    generalize x.val = X at *
    obtain ⟨b0, _, _, _, _, _, _, k0, k1, k2, k3, k4, k5⟩ := six_z HT1.out
    by_cases hlt : j < sn
    · obtain ⟨b, off, ha, hb, hc⟩ := HRW.out j hlt
      subst ha
      have q0 := hc 0 (by omega)
      simp only [Sl.v, List.getElem?_cons_zero, Nat.add_zero, Nat.mul_one] at q0
      rw [← HBX.out.cell (p := ⟨b, _, none⟩) hb] at q0
      have hb2 : b < X.heap.size := by omega
      have D1 := Lib.hid (C1.out j hlt)
      have HNX := Lib.hid (HRN.out j)
      have hrl := HLN.out j
      clear hc C1 HLN
      generalize r j = u at *
      generalize ro j = R at *
      obtain ⟨ua, un, uc⟩ := u
      simp only at q0 D1
      go_wp2_with (go_at_call 81; ((with_reducible refine (D1.out _ HBX.out).mono ?_); rintro e w1 ⟨v, rfl, hov, y, rfl⟩; have HV := Lib.hid hov; clear hov; have ys := y.size; obtain ⟨va, vn, vc, ev⟩ := HV.out.slice; subst ev; have HVN := Lib.hid HV.out.at_.1; have hvc := HV.out.at_.2.1; have hvm := HV.out.at_.2.2.1; unfold maxLen at hvm))
      have hvn8 : vn ≤ 8 := by have := HVN.out; omega
      have HOY := Lib.hid (HO.out.later y.below)
      have HXY : Hid (Below W0.heap.size W0 y.val) := Lib.hid (y.on HX0.out (by omega))
      have hsep : ∀ g, (Value.slice va vn vc).ownBlock = some g → u5.ownBlock ≠ some g := fun g hg e => by
        have h1 := (HV.out.lt g hg).1
        have h2 := (HO.out.lt g e).2
        omega
      have HSEP := Lib.hid hsep
      clear hsep
      generalize y.val = Y at *
      clear k0 k1 k2 k3 k4 k5 q0
      go_loopw [5, 22] (fun u i wr => ∃ (k : Nat), k ≤ vn ∧ i = .int .i64 k ∧ OwnO wr (w.heap.size + 2) u (l ++ (R.take k).map (Vio.row (j : Nat))) ∧ OwnO wr (X.heap.size + 1) (.slice va vn vc) R ∧ (∀ g, (Value.slice va vn vc).ownBlock = some g → u.ownBlock ≠ some g) ∧ Cls W0 wr) (fun _ i _ => vn - (intOf i).toNat)
      case atStart => exact ⟨0, Nat.zero_le _, rfl, by simpa using HOY.out, HV.out, HSEP.out, Cls.of HXY.out⟩
      case round =>
        obtain ⟨k, hk, rfl, hown, hov, hsp, z, rfl⟩ := hrel
        have HO2 := Lib.hid hown
        have HV2 := Lib.hid hov
        have HSP := Lib.hid hsp
        have HAT := Lib.hid hov.at_.2.2.2
        clear hown hov hsp
        have zs := z.size
        by_cases hlt2 : k < vn
        · obtain ⟨g, ega, hg1, hg2, c0, c1, c2, c3, c4⟩ := HAT.out k hlt2
          subst ega
          have hRk : k < R.length := by have := HVN.out; omega
          have HTK : Hid (R.take (k + 1) = R.take k ++ [R.getD k ⟨0, 0, 0, 0, 0⟩]) := Lib.hid (by rw [List.take_succ_eq_append_getElem hRk]; simp [List.getD, hRk])
          have hlen : (l ++ (R.take k).map (Vio.row (j : Nat))).length ≤ 90000 := by simp; omega
          generalize R.getD k ⟨0, 0, 0, 0, 0⟩ = vv at *
          obtain ⟨vk, vt, vi, vr, vo⟩ := vv
          simp only at c0 c1 c2 c3 c4
          have hown5 : ∀ gg, u5.ownBlock = some gg → gg < z.val.heap.size ∧ w.heap.size + 2 ≤ gg := fun gg hgg => ⟨(HO2.out.lt gg hgg).2, (HO2.out.lt gg hgg).1⟩
          have HW5 := Lib.hid hown5
          clear hown5
          go_wp2_with (at_builtin; refine append1_O rfl _ _ rfl (w.heap.size + 2) _ (l ++ (R.take k).map (Vio.row (j : Nat))) rfl (HO2.out.later (by repeat first|with_reducible exact Below.refl _ _|with_reducible refine Below.setCell ?_ (by first|omega|(simp;done)|(simp;omega)) _|with_reducible refine Below.alloc ?_ (by first|omega|(simp;done)|(simp;omega)) _|with_reducible refine Below.drew ?_|with_reducible refine Ext.on _ ?_ (by first|omega|(simp;done)|(simp;omega)))) ⟨z.val.heap.size + 1, 0, none⟩ ⟨vk, vt, vi, (j : Nat), vo⟩ rfl (cells_atO _ _ (by simp) ⟨vk, vt, vi, (j : Nat), vo⟩ _) (by omega) (by simp; omega) ?_; intro v3 w3 hown3 hg3 hat3; have HO3 := Lib.hid hown3; have HG := Lib.hid hg3; have HA := Lib.hid hat3; clear hown3 hg3 hat3)
          go_roundw
          case rel =>
            refine ⟨k + 1, by omega, by go_num, ?_, ?_, ?_, Cls.of ?_⟩
            · rw [HTK.out, List.map_append, ← List.append_assoc]
              exact HO3.out
            · refine OwnO.kept (HV2.out.later (w' := (z.val.alloc _).alloc _) ?_) HG.out (.inr (fun e => HSP.out g rfl e.symm))
              repeat first|with_reducible exact Below.refl _ _|with_reducible refine Below.setCell ?_ (by first|omega|(simp;done)|(simp;omega)) _|with_reducible refine Below.alloc ?_ (by first|omega|(simp;done)|(simp;omega)) _|with_reducible refine Below.drew ?_|with_reducible refine Ext.on _ ?_ (by first|omega|(simp;done)|(simp;omega))
            · intro g' hg' e
              have hgg : g = g' := by simpa [Value.ownBlock] using hg'
              subst hgg
              rcases HA.out with h1 | h1
              · exact HSP.out g rfl (h1.symm.trans e)
              · rw [h1] at e
                have e2 := Option.some.inj e
                simp at e2
                omega
            · refine Below.grown (w := (z.val.alloc _).alloc _) ?_ HG.out (by simp; omega) (fun k hk => by have := (HW5.out k hk).2; omega)
              repeat first|with_reducible exact Below.refl _ _|with_reducible refine Below.setCell ?_ (by first|omega|(simp;done)|(simp;omega)) _|with_reducible refine Below.alloc ?_ (by first|omega|(simp;done)|(simp;omega)) _|with_reducible refine Below.drew ?_|with_reducible refine Ext.on _ ?_ (by first|omega|(simp;done)|(simp;omega))
          case measure => simp [intOf]; omega
        · obtain rfl : k = vn := by omega
          have HFN : Hid (l ++ R.map (Vio.row (j : Nat)) = rs (j + 1)) := Lib.hid (by rw [HNX.out, HL.out])
          have HTK : Hid (R.take k = R) := Lib.hid (List.take_of_length_le (by rw [← HVN.out]; omega))
          go_wp2_with fail
          go_roundw
          case rel => exact ⟨j + 1, _, by omega, by go_num, HO2.out, by rw [HTK.out, HFN.out], z, rfl⟩
          case measure => simp [intOf]; omega
    · obtain rfl : j = sn := by omega
      have HFA : Hid (fb j = !l.any badO) := Lib.hid (by rw [HFB.out, HL.out])
      obtain ⟨ua, un, uc, eu⟩ := HO.out.slice
      subst eu
      have C2 := Lib.hid (containsO_calls ua un uc l (w.heap.size + 2) X HO.out)
      have hun := HO.out.at_.2.1
      have hum := HO.out.at_.2.2.1
      unfold maxLen at hum
      clear HRW C1 HLN HRN
      go_wp2_with (go_at_call 82; ((with_reducible refine C2.out.mono ?_); rintro e _ ⟨rfl, y, rfl⟩; have ys := y.size; have HT3 := Lib.hid ((y.below.block _ (by omega)).trans HT2.out); have HT4 := Lib.hid ((y.below.block _ (by omega)).trans HT1.out); obtain ⟨d0, f0, f1, f2, f3, f4, f5, f6, f7, f8, d1, d2, d3, d4, d5, d6, d7, d8, d9⟩ := nine_z HT3.out; obtain ⟨e0, _, _, _, _, _, _, m0, m1, m2, m3, m4, m5⟩ := six_z HT4.out))
      refine ret_ex rfl ?_
      simp [results, Tryz.results49, go_sem, d1, d2, d3, d4, d5, d6, d7, d8, d9]
      refine ⟨_, ⟨rfl, by rw [HFA.out, Bool.not_not]⟩, ?_, Cls.of ?_⟩
      · rw [← HL.out]
        repeat (with_reducible refine OwnO.setCell ?_ _ (by simp) _)
        exact HO.out.later y.below
      · repeat (with_reducible refine Below.setCell ?_ (by simp) _)
        exact y.on HBX.out (by omega)
end Go.Proofs.YtdmhmlnfoocnjaaGreatDoor
set_option linter.unusedVariables false
namespace Go.Proofs.YtdmhmlnfoocnjaaGreatDoor
open Go Go.RowKit Go.Deep Go.Maps
set_option maxHeartbeats 16000000 in
set_option maxRecDepth 20000 in
theorem dangling_calls (t : Tb) (s cs : Sl) (iv : Value) (fit : Bool) (ix : Int) (r : Nat → Sl) (f : Nat → Nat → Vl) (g : Nat → Int) (B n : Nat) (h : Nat → Int) (d : Nat) (f' : Nat → Nat → Vl) (len' : Nat) (w : World) (hr : RwsAt w s r f) (hc : SlAt w 1 cs (intC g)) (hin : ∀ n, n < s.len → ∀ i, i < cs.len → 0 ≤ g i ∧ g i < (r n).len) (h8 : cs.len ≤ 8) (hs : s.len ≤ 10000) (hiv : iv.oneCell' = true)
    (c' : Nat) (hcc : c' = cs.len) (hB : FirstIs w B n c' (fun l => idx (firstP h d f' l) 0 len')) :
    Calls Tryz.prog 86 #[.agg #[.string t.name, .slice t.cs.a t.cs.len t.cs.cap, .slice t.ps.a t.ps.len t.ps.cap, .slice t.us.a t.us.len t.us.cap, .slice t.fs.a t.fs.len t.fs.cap, .slice t.ks.a t.ks.len t.ks.cap, .slice s.a s.len s.cap, iv, .bool fit], .slice cs.a cs.len cs.cap, .map (some B), .int .i64 ix] w fun e w' => ∃ v, e = .returned v ∧ OwnO w' (w.heap.size + 1) v (dansO ix g cs.len f h d f' len' s.len) ∧ Cls w w' := by
  subst hcc
  have hle := hr.rows.1
  have hmax := hr.rows.2.1
  unfold maxLen at hmax
  have HRW := Lib.hid hr.rows.2.2.2
  have C1 : Hid (∀ j, j < s.len → ∀ W, Below w.heap.size w W → Calls Tryz.prog 116 #[.slice (r j).a (r j).len (r j).cap, .slice cs.a cs.len cs.cap] W fun e w' => e = .returned (.tuple #[keyV (keyW g cs.len (f j)), .bool (!nulL (keyW g cs.len (f j)))]) ∧ Cls W w') := Lib.hid fun j hj W hW => keyOf_calls (r j) cs (f j) g W ((hr.vals j hj).later hW) (hc.later hW) (hin j hj) h8
  have HFK : Hid (∀ j, j < s.len → FineK cs.len (keyW g cs.len (f j))) := Lib.hid fun j hj => fineK_row hr hj h8 (hin j hj)
  have HRO := Lib.hid (danO_is ix g cs.len f h d f' len')
  have HLN : Hid (∀ j, (dansO ix g cs.len f h d f' len' j).length ≤ j) := Lib.hid fun j => dansO_len ix g cs.len f h d f' len' j
  have HR0 : Hid (dansO ix g cs.len f h d f' len' 0 = []) := Lib.hid rfl
  have HRN : Hid (∀ j, dansO ix g cs.len f h d f' len' (j + 1) = dansO ix g cs.len f h d f' len' j ++ danO ix g cs.len f h d f' len' j) := Lib.hid fun j => rfl
  have HI0 := Lib.hid hB
  clear hr hc hin hB
  generalize dansO ix g cs.len f h d f' len' = rs at *
  generalize danO ix g cs.len f h d f' len' = ro at *
  generalize hF : (fun l => idx (firstP h d f' l) 0 len') = F at *
  have hF2 : ∀ l, idx (firstP h d f' l) 0 len' = F l := fun l => by rw [← hF]
  simp only [hF2] at HRO
  clear hF2 hF
  generalize hK : (fun j => keyW g cs.len (f j)) = kw at *
  have hK2 : ∀ j, keyW g cs.len (f j) = kw j := fun j => by rw [← hK]
  simp only [hK2] at C1 HFK HRO
  clear hK2 hK
  obtain ⟨tn, ⟨ca, cn, cc⟩, tf, tps, tprim, tus, tuq, tuqn, tfs, tfk, tfkn, tfkt, tks, tch⟩ := t
  obtain ⟨sa, sn, sc⟩ := s
  obtain ⟨csa, c, csc⟩ := cs
  simp only at hle hmax HRW C1 HFK HI0 h8 hs ⊢
  go_enter Tryz.func86, Tryz.ntmps86
  have hbl1 : (w.alloc (.cells #[.string tn, .slice ca cn cc, .slice tps.a tps.len tps.cap, .slice tus.a tus.len tus.cap, .slice tfs.a tfs.len tfs.cap, .slice tks.a tks.len tks.cap, .slice sa sn sc, iv, .bool fit] 98)).heap[w.heap.size]? = some (.cells #[.string tn, .slice ca cn cc, .slice tps.a tps.len tps.cap, .slice tus.a tus.len tus.cap, .slice tfs.a tfs.len tfs.cap, .slice tks.a tks.len tks.cap, .slice sa sn sc, iv, .bool fit] 98) := heap_alloc_new w _
  obtain ⟨b0, _, _, _, _, _, _, _, _, _, n0, n1, n2, n3, n4, n5, n6, n7, n8⟩ := nine_z hbl1
  have HB0 : Hid (Below w.heap.size w (w.alloc (.cells #[.string tn, .slice ca cn cc, .slice tps.a tps.len tps.cap, .slice tus.a tus.len tus.cap, .slice tfs.a tfs.len tfs.cap, .slice tks.a tks.len tks.cap, .slice sa sn sc, iv, .bool fit] 98))) := Lib.hid (by repeat first|with_reducible exact Below.refl _ _|with_reducible refine Below.setCell ?_ (by first|omega|(simp;done)|(simp;omega)) _|with_reducible refine Below.alloc ?_ (by first|omega|(simp;done)|(simp;omega)) _|with_reducible refine Below.drew ?_|with_reducible refine Ext.on _ ?_ (by first|omega|(simp;done)|(simp;omega)))
  go_wp2_with fail
  have HIA := Lib.hid (HI0.out.later HB0.out)
  clear hbl1 b0 n0 n1 n2 n3 n4 n5 n6 n7 n8 HI0
  have hws : (w.alloc (.cells #[.string tn, .slice ca cn cc, .slice tps.a tps.len tps.cap, .slice tus.a tus.len tus.cap, .slice tfs.a tfs.len tfs.cap, .slice tks.a tks.len tks.cap, .slice sa sn sc, iv, .bool fit] 98)).heap.size = w.heap.size + 1 := by simp
  generalize (w.alloc (.cells #[.string tn, .slice ca cn cc, .slice tps.a tps.len tps.cap, .slice tus.a tus.len tus.cap, .slice tfs.a tfs.len tfs.cap, .slice tks.a tks.len tks.cap, .slice sa sn sc, iv, .bool fit] 98)) = W0 at *
  go_loopw [9, 19] (fun u i wr => ∃ (j : Nat) (l : List Vio), j ≤ sn ∧ i = .int .i64 j ∧ OwnO wr (w.heap.size + 1) u l ∧ l = rs j ∧ FirstIs wr B n c F ∧ Below w.heap.size w wr) (fun _ i _ => sn - (intOf i).toNat)
  case atStart => exact ⟨0, [], Nat.zero_le _, rfl, OwnO.nil _ _, HR0.out.symm, HIA.out, HB0.out⟩
  case round =>
    obtain ⟨j, l, hj, rfl, ho, hl, hfi, hbw⟩ := hrel
    have HO := Lib.hid ho
    have HL := Lib.hid hl
    have hln : l.length ≤ 10000 := by have := HLN.out j; rw [hl]; omega
    have HI := Lib.hid hfi
    have HW := Lib.hid hbw
    have hww := hbw.size
    clear ho hl hfi hbw HIA HB0
    by_cases hlt : j < sn
    · obtain ⟨b, off, ha, hb, hcc⟩ := HRW.out j hlt
      subst ha
      have q0 := hcc 0 (by omega)
      simp only [Sl.v, List.getElem?_cons_zero, Nat.add_zero, Nat.mul_one] at q0
      rw [← HW.out.cell (p := ⟨b, _, none⟩) hb] at q0
      have hb2 : b < wr.heap.size := by omega
      have D1 := Lib.hid (C1.out j hlt)
      have HFJ := Lib.hid (HFK.out j hlt)
      obtain ⟨hr1, hr2⟩ := HRO.out j
      have HR1 := Lib.hid hr1
      have HR2 := Lib.hid hr2
      have HNX := Lib.hid (HRN.out j)
      clear hcc C1 HFK HRO HRN HRW hr1 hr2 HR0 HLN
      generalize r j = u at *
      generalize kw j = L at *
      obtain ⟨ua, un, uc⟩ := u
      simp only at q0 D1
      by_cases hd : 0 ≤ F L
      · have DD : decide (0 ≤ F L) = true := by simpa using hd
        have hdm : decide (F L < 0) = false := by simpa using hd
        have HN : Hid (l = rs (j + 1)) := Lib.hid (by rw [HNX.out, HR2.out (by rw [hdm, Bool.and_false]), List.append_nil, HL.out])
        clear hdm HR1 HR2
        cases hnl : nulL L
        all_goals
          rw [hnl] at D1
          clear hnl
          go_wp2_with (first | (go_at_call 116; ((with_reducible refine (D1.out _ HW.out).mono ?_); rintro e _ ⟨rfl, y, rfl⟩; have ys := y.size)) | (refine wpList_newK y.val rfl _ _ rfl HFJ.out rfl rfl ?_) | (refine wpList_loadK rfl _ rfl HFJ.out y.val.heap.size rfl (heap_alloc_new _ _) ?_; have HLK := ((HI.out.later y.below).later ((Below.refl _ _).alloc (Nat.le_refl _) (.cells (flatK (padK L)).toArray 151))).look_ok HFJ.out; rw [DD] at HLK))
          go_roundw
          case rel =>
            exact ⟨j + 1, l, by omega, by go_num, HO.out.later ((y.below).alloc (by omega) _), HN.out, (HI.out.later y.below).later ((Below.refl _ _).alloc (Nat.le_refl _) _), (y.on HW.out (by omega)).alloc (by omega) _⟩
          case measure => simp [intOf]; omega
      · have DD : decide (0 ≤ F L) = false := by simpa using hd
        have hdm : decide (F L < 0) = true := by simp; omega
        cases hnl : nulL L
        · have HN : Hid (l ++ [⟨6, 0, ix, (j : Nat), 0⟩] = rs (j + 1)) := Lib.hid (by rw [HNX.out, HR1.out (by rw [hnl, hdm]; rfl), HL.out])
          rw [hnl] at D1
          clear hdm HR1 HR2 hnl
          go_wp2_with (first | (go_at_call 116; ((with_reducible refine (D1.out _ HW.out).mono ?_); rintro e _ ⟨rfl, y, rfl⟩; have ys := y.size)) | (refine wpList_newK y.val rfl _ _ rfl HFJ.out rfl rfl ?_) | (refine wpList_loadK rfl _ rfl HFJ.out y.val.heap.size rfl (heap_alloc_new _ _) ?_; have HLK := ((HI.out.later y.below).later ((Below.refl _ _).alloc (Nat.le_refl _) (.cells (flatK (padK L)).toArray 151))).look_ok HFJ.out; rw [DD] at HLK) | (at_builtin; refine append1_O rfl _ _ rfl (w.heap.size + 1) u9 l rfl (HO.out.later (((y.below).alloc (by omega) _).alloc (by simp; omega) _)) ⟨y.val.heap.size + 1, 0, none⟩ ⟨6, 0, ix, (j : Nat), 0⟩ rfl (cells_atO _ _ (by simp) ⟨6, 0, ix, (j : Nat), 0⟩ _) (by omega) (by simp; omega) ?_; intro v3 w3 hown3 hg3 hat3; have HO3 := Lib.hid hown3; have HG := Lib.hid hg3; clear hown3 hg3 hat3))
          have h5w : ∀ k, u9.ownBlock = some k → w.heap.size + 1 ≤ k ∧ k < wr.heap.size := fun k hk => HO.out.lt k hk
          go_roundw
          case rel =>
            refine ⟨j + 1, l ++ [⟨6, 0, ix, (j : Nat), 0⟩], by omega, by go_num, HO3.out, HN.out, ?_, ?_⟩
            · have HIW := ((HI.out.later y.below).later ((Below.refl _ _).alloc (Nat.le_refl _) (.cells (flatK (padK L)).toArray 151))).later ((Below.refl _ _).alloc (Nat.le_refl _) (.cells #[.int .i64 6, .int .i64 0, .int .i64 ix, .int .i64 (j : Nat), .int .i64 0] 74))
              refine HIW.same (HG.out.block _ HIW.lt (fun e => ?_))
              obtain ⟨D, ⟨es, clock, hb, _⟩, _⟩ := HI.out
              rcases HO.out.2 with ⟨h1, _⟩ | ⟨g, cap, cur, h1, _, hh, _⟩
              · rw [h1] at e; cases e
              · rw [h1] at e
                have e2 : B = g := by simpa [Value.ownBlock] using e
                rw [e2, hh] at hb
                cases hb
            · exact Below.grown (w := (y.val.alloc _).alloc _) (((y.on HW.out (by omega)).alloc (by omega) _).alloc (by simp; omega) _) HG.out (by simp; omega) (fun k hk => by have := h5w k hk; omega)
          case measure => simp [intOf]; omega
        · have HN : Hid (l = rs (j + 1)) := Lib.hid (by rw [HNX.out, HR2.out (by rw [hnl]; rfl), List.append_nil, HL.out])
          rw [hnl] at D1
          clear hdm HR1 HR2 hnl
          go_wp2_with (first | (go_at_call 116; ((with_reducible refine (D1.out _ HW.out).mono ?_); rintro e _ ⟨rfl, y, rfl⟩; have ys := y.size)) | (refine wpList_newK y.val rfl _ _ rfl HFJ.out rfl rfl ?_) | (refine wpList_loadK rfl _ rfl HFJ.out y.val.heap.size rfl (heap_alloc_new _ _) ?_; have HLK := ((HI.out.later y.below).later ((Below.refl _ _).alloc (Nat.le_refl _) (.cells (flatK (padK L)).toArray 151))).look_ok HFJ.out; rw [DD] at HLK))
          go_roundw
          case rel =>
            exact ⟨j + 1, l, by omega, by go_num, HO.out.later ((y.below).alloc (by omega) _), HN.out, (HI.out.later y.below).later ((Below.refl _ _).alloc (Nat.le_refl _) _), (y.on HW.out (by omega)).alloc (by omega) _⟩
          case measure => simp [intOf]; omega
    · obtain rfl : j = sn := by omega
      go_wp2_with fail
      go_ret
      exact ⟨_, rfl, by rw [← HL.out]; exact HO.out, Cls.of HW.out⟩
end Go.Proofs.YtdmhmlnfoocnjaaGreatDoor
