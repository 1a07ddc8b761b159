/-
  What is wrong with a row.
-/
import Derived.Test.YtdmhmlnfoocnjaaGreatDoorK36
import Derived.Test.YtdmhmlnfoocnjaaGreatDoorK13
set_option linter.unusedVariables false
namespace Go.Proofs.YtdmhmlnfoocnjaaGreatDoor
open Go Go.RowKit Go.Deep
set_option maxHeartbeats 8000000 in
set_option maxRecDepth 20000 in
theorem inValue_calls (t : Tb) (c : Nat) (v : Vl) (w : World) (h : TbAt w t) (hc : c < t.cs.len) (hx : v.s.size ≤ maxLen) :
    Calls Tryz.prog 114 #[.agg #[.string t.name, .slice t.cs.a t.cs.len t.cs.cap, .slice t.ps.a t.ps.len t.ps.cap, .slice t.us.a t.us.len t.us.cap, .slice t.fs.a t.fs.len t.fs.cap, .slice t.ks.a t.ks.len t.ks.cap], .int .i64 (c : Nat), .agg #[.int .i64 v.k, .int .i64 v.n, .string v.s]] w fun r w' => r = .returned (.tuple #[.int .i64 (valK t c v), .bool (!(valK t c v == 0))]) ∧ Cls w w' := by
  have hle := h.cols.1
  have hmax := h.cols.2.1
  unfold maxLen at hmax
  obtain ⟨b, off, ha, hb2, hcc⟩ := h.cols.2.2.2 c hc
  have q0 := hcc 0 (by omega)
  have q1 := hcc 1 (by omega)
  have q2 := hcc 2 (by omega)
  simp only [Cl.cells, List.getElem?_cons_zero, List.getElem?_cons_succ, Nat.add_zero] at q0 q1 q2
  have HIS := Lib.hid (valK_is t c v)
  have C2 : Hid (∀ W, Below w.heap.size w W → Calls Tryz.prog 131 #[.slice t.ps.a t.ps.len t.ps.cap, .int .i64 (c : Nat)] W fun r w' => r = .returned (.bool (inP t c)) ∧ Cls W w') := Lib.hid fun W hW => containsI_calls t.ps t.prim (c : Nat) W (h.prim.later hW)
  have hbd : badV (t.col c).ty v = (!(vB v.k v.n v.s) || (!(v.k == 0) && !(v.k == (t.col c).ty))) := rfl
  have HBD := Lib.hid hbd
  obtain ⟨vk, vn, vs⟩ := v
  simp only at hx HIS HBD ⊢
  have C1 : Hid (∀ W, Calls Tryz.prog 136 #[.agg #[.int .i64 vk, .int .i64 vn, .string vs]] W fun r w' => r = .returned (.bool (vB vk vn vs)) ∧ Cls W w') := Lib.hid fun W => Valid_calls vk vn vs W hx
  clear h hcc hx hbd
  generalize badV (t.col c).ty ⟨vk, vn, vs⟩ = bv at *
  generalize valK t c ⟨vk, vn, vs⟩ = kk at *
  generalize inP t c = ip at *
  generalize t.col c = cl at *
  generalize vB vk vn vs = vb at *
  obtain ⟨cn, cty, cnl⟩ := cl
  simp only at q0 q1 q2 HIS HBD
  obtain ⟨tn, ⟨csa, csl, csc⟩, tf, ⟨psa, psl, psc⟩, tprim, ⟨ua, un, uc⟩, tuq, tuqn, ⟨fa, fn, fc⟩, tfk, tfkn, tfkt, ⟨ka, kn, kc⟩, tch⟩ := t
  simp only at hle hmax ha hc C2 ⊢
  subst ha
  have hlt : (c : Int) < (csl : Int) := by omega
  have fin : ∀ kk : Int, ∀ W, Below w.heap.size w W → (kk = 0 → (Ending.returned (.tuple #[.int .i64 0, .bool false]) = .returned (.tuple #[.int .i64 kk, .bool (!(kk == 0))])) ∧ Cls w W) ∧ (kk = 2 → (Ending.returned (.tuple #[.int .i64 2, .bool true]) = .returned (.tuple #[.int .i64 kk, .bool (!(kk == 0))])) ∧ Cls w W) ∧ (kk = 3 → (Ending.returned (.tuple #[.int .i64 3, .bool true]) = .returned (.tuple #[.int .i64 kk, .bool (!(kk == 0))])) ∧ Cls w W) := fun kk W hW => ⟨fun h => by subst h; exact ⟨rfl, Cls.of hW⟩, fun h => by subst h; exact ⟨rfl, Cls.of hW⟩, fun h => by subst h; exact ⟨rfl, Cls.of hW⟩⟩
  have FIN := Lib.hid fin
  clear fin
  cases vb
  · have hbv : bv = true := by rw [HBD.out]; rfl
    have HK := Lib.hid (HIS.out.1 hbv)
    clear HIS HBD hbv
    go_enter Tryz.func114, Tryz.ntmps114
    go_wp2_with (go_at_call 136; ((with_reducible refine (C1.out _).mono ?_); rintro r _ ⟨rfl, y, rfl⟩))
    go_ret2
    exact (FIN.out kk _ (by repeat first|with_reducible exact Below.refl _ _|with_reducible refine Below.setCell ?_ (by first|omega|(simp;done)|(simp;omega)) _|with_reducible refine Below.alloc ?_ (by first|omega|(simp;done)|(simp;omega)) _|with_reducible refine Below.drew ?_|with_reducible refine Ext.on _ ?_ (by first|omega|(simp;done)|(simp;omega)))).2.1 HK.out
  · by_cases h0 : vk = 0
    · subst h0
      have hbv : bv = false := by rw [HBD.out]; rfl
      have HK := Lib.hid (HIS.out.2 hbv)
      clear HIS HBD hbv
      cases cnl
      · have HK2 := Lib.hid (HK.out.1 rfl)
        clear HK
        go_enter Tryz.func114, Tryz.ntmps114
        go_wp2_with (go_at_call 136; ((with_reducible refine (C1.out _).mono ?_); rintro r _ ⟨rfl, y, rfl⟩; obtain ⟨l1, l2, l3, l4, l5⟩ := y.lts (b := w.heap.size + 2) (by simp)))
        go_ret2
        exact (FIN.out kk _ (by repeat first|with_reducible exact Below.refl _ _|with_reducible refine Below.setCell ?_ (by first|omega|(simp;done)|(simp;omega)) _|with_reducible refine Below.alloc ?_ (by first|omega|(simp;done)|(simp;omega)) _|with_reducible refine Below.drew ?_|with_reducible refine Ext.on _ ?_ (by first|omega|(simp;done)|(simp;omega)))).2.2 HK2.out
      · cases ip
        · have HK2 := Lib.hid (HK.out.2 rfl)
          clear HK
          go_enter Tryz.func114, Tryz.ntmps114
          go_wp2_with (first | (go_at_call 136; ((with_reducible refine (C1.out _).mono ?_); rintro r _ ⟨rfl, y, rfl⟩; have ys := y.size; simp at ys)) | (go_at_call 131; ((with_reducible refine (C2.out _ ?_).mono ?_); (· (repeat first|with_reducible exact Below.refl _ _|with_reducible refine Below.setCell ?_ (by first|omega|(simp;done)|(simp;omega)) _|with_reducible refine Below.alloc ?_ (by first|omega|(simp;done)|(simp;omega)) _|with_reducible refine Below.drew ?_|with_reducible refine Ext.on _ ?_ (by first|omega|(simp;done)|(simp;omega)))); rintro r _ ⟨rfl, y2, rfl⟩)))
          go_ret2
          exact (FIN.out kk _ (by repeat first|with_reducible exact Below.refl _ _|with_reducible refine Below.setCell ?_ (by first|omega|(simp;done)|(simp;omega)) _|with_reducible refine Below.alloc ?_ (by first|omega|(simp;done)|(simp;omega)) _|with_reducible refine Below.drew ?_|with_reducible refine Ext.on _ ?_ (by first|omega|(simp;done)|(simp;omega)))).1 HK2.out
        · have HK2 := Lib.hid (HK.out.1 rfl)
          clear HK
          go_enter Tryz.func114, Tryz.ntmps114
          go_wp2_with (first | (go_at_call 136; ((with_reducible refine (C1.out _).mono ?_); rintro r _ ⟨rfl, y, rfl⟩; have ys := y.size; simp at ys)) | (go_at_call 131; ((with_reducible refine (C2.out _ ?_).mono ?_); (· (repeat first|with_reducible exact Below.refl _ _|with_reducible refine Below.setCell ?_ (by first|omega|(simp;done)|(simp;omega)) _|with_reducible refine Below.alloc ?_ (by first|omega|(simp;done)|(simp;omega)) _|with_reducible refine Below.drew ?_|with_reducible refine Ext.on _ ?_ (by first|omega|(simp;done)|(simp;omega)))); rintro r _ ⟨rfl, y2, rfl⟩)))
          go_ret2
          exact (FIN.out kk _ (by repeat first|with_reducible exact Below.refl _ _|with_reducible refine Below.setCell ?_ (by first|omega|(simp;done)|(simp;omega)) _|with_reducible refine Below.alloc ?_ (by first|omega|(simp;done)|(simp;omega)) _|with_reducible refine Below.drew ?_|with_reducible refine Ext.on _ ?_ (by first|omega|(simp;done)|(simp;omega)))).2.2 HK2.out
    · have d0 : (vk == 0) = false := by simp [h0]
      have d0' : (vk != 0) = true := by simp [h0]
      by_cases ht : vk = cty
      · subst ht
        have hbv : bv = false := by rw [HBD.out]; simp
        have HK := Lib.hid ((HIS.out.2 hbv).2 (by rw [d0]; rfl))
        clear HIS HBD hbv h0
        go_enter Tryz.func114, Tryz.ntmps114
        go_wp2_with (go_at_call 136; ((with_reducible refine (C1.out _).mono ?_); rintro r _ ⟨rfl, y, rfl⟩))
        go_ret2
        exact (FIN.out kk _ (by repeat first|with_reducible exact Below.refl _ _|with_reducible refine Below.setCell ?_ (by first|omega|(simp;done)|(simp;omega)) _|with_reducible refine Below.alloc ?_ (by first|omega|(simp;done)|(simp;omega)) _|with_reducible refine Below.drew ?_|with_reducible refine Ext.on _ ?_ (by first|omega|(simp;done)|(simp;omega)))).1 HK.out
      · have d1 : (vk == cty) = false := by simp [ht]
        have d1' : (vk != cty) = true := by simp [ht]
        have hbv : bv = true := by rw [HBD.out, d0, d1]; rfl
        have HK := Lib.hid (HIS.out.1 hbv)
        clear HIS HBD hbv h0 ht
        go_enter Tryz.func114, Tryz.ntmps114
        go_wp2_with (go_at_call 136; ((with_reducible refine (C1.out _).mono ?_); rintro r _ ⟨rfl, y, rfl⟩))
        go_ret2
        exact (FIN.out kk _ (by repeat first|with_reducible exact Below.refl _ _|with_reducible refine Below.setCell ?_ (by first|omega|(simp;done)|(simp;omega)) _|with_reducible refine Below.alloc ?_ (by first|omega|(simp;done)|(simp;omega)) _|with_reducible refine Below.drew ?_|with_reducible refine Ext.on _ ?_ (by first|omega|(simp;done)|(simp;omega)))).2.1 HK.out
theorem cellO_is (t : Tb) (f : Nat → Vl) (c : Nat) : (valK t c (f c) = 0 → cellO t f c = []) ∧ (valK t c (f c) ≠ 0 → cellO t f c = [⟨valK t c (f c), 0, (c : Nat), 0, 0⟩]) := by
  unfold cellO
  exact ⟨fun h => if_pos h, fun h => if_neg h⟩
set_option maxHeartbeats 8000000 in
set_option maxRecDepth 20000 in
theorem inRow_calls (t : Tb) (s : Sl) (f : Nat → Vl) (w : World) (h : TbAt w t) (hs : SlAt w 3 s (fun j => vlC (f j))) (hx : ∀ j, j < s.len → (f j).s.size ≤ maxLen) (h8 : t.cs.len ≤ 8) :
    Calls Tryz.prog 81 #[.agg #[.string t.name, .slice t.cs.a t.cs.len t.cs.cap, .slice t.ps.a t.ps.len t.ps.cap, .slice t.us.a t.us.len t.us.cap, .slice t.fs.a t.fs.len t.fs.cap, .slice t.ks.a t.ks.len t.ks.cap], .slice s.a s.len s.cap] w fun r w' => ∃ v, r = .returned v ∧ OwnO w' (w.heap.size + 1) v (rowO t s.len f) ∧ Cls w w' := by
  have hle := hs.1
  have hmax := hs.2.1
  unfold maxLen at hmax
  have HS := Lib.hid hs.2.2.2
  have HIS := Lib.hid (rowO_is t s.len f)
  have HCE := Lib.hid (cellO_is t f)
  have HCL := Lib.hid (fun j => catN_len (n := j) fun i _ => cellO_len t f i)
  have C1 : Hid (∀ j, j < t.cs.len → j < s.len → ∀ W, Below w.heap.size w W → Calls Tryz.prog 114 #[.agg #[.string t.name, .slice t.cs.a t.cs.len t.cs.cap, .slice t.ps.a t.ps.len t.ps.cap, .slice t.us.a t.us.len t.us.cap, .slice t.fs.a t.fs.len t.fs.cap, .slice t.ks.a t.ks.len t.ks.cap], .int .i64 (j : Nat), .agg #[.int .i64 (f j).k, .int .i64 (f j).n, .string (f j).s]] W fun r w' => r = .returned (.tuple #[.int .i64 (valK t j (f j)), .bool (!(valK t j (f j) == 0))]) ∧ Cls W w') := Lib.hid fun j hj hj2 W hW => inValue_calls t j (f j) W (h.later hW) hj (hx j hj2)
  clear h hs hx
  have hCN := fun j => catN_next (cellO t f) j
  have HCN := Lib.hid hCN
  clear hCN
  have HC0 : Hid (catN (cellO t f) 0 = []) := Lib.hid rfl
  generalize catN (cellO t f) = cat at *
  generalize cellO t f = ce at *
  generalize rowO t s.len f = ro at *
  generalize hvk : (fun j => valK t j (f j)) = vk at *
  have hvk2 : ∀ j, valK t j (f j) = vk j := fun j => by rw [← hvk]
  simp only [hvk2] at C1 HCE
  clear hvk2 hvk
  obtain ⟨tn, ⟨ca, cn, cc⟩, tf, tps, tprim, tus, tuq, tuqn, tfs, tfk, tfkn, tfkt, tks, tch⟩ := t
  obtain ⟨sa, sn, sc⟩ := s
  simp only at hle hmax HS HIS C1 h8 ⊢
  by_cases hn : sn = cn
  · subst hn
    have HR := Lib.hid (HIS.out.1 rfl)
    clear HIS
    go_enter Tryz.func81, Tryz.ntmps81
    go_wp2_with fail
    have hbl : (w.alloc (.cells #[.string tn, .slice ca sn cc, .slice tps.a tps.len tps.cap, .slice tus.a tus.len tus.cap, .slice tfs.a tfs.len tfs.cap, .slice tks.a tks.len tks.cap] 55)).heap[w.heap.size]? = some (.cells #[.string tn, .slice ca sn cc, .slice tps.a tps.len tps.cap, .slice tus.a tus.len tus.cap, .slice tfs.a tfs.len tfs.cap, .slice tks.a tks.len tks.cap] 55) := heap_alloc_new w _
    have HBL := Lib.hid hbl
    have HB0 : Hid (Below w.heap.size w (w.alloc (.cells #[.string tn, .slice ca sn cc, .slice tps.a tps.len tps.cap, .slice tus.a tus.len tus.cap, .slice tfs.a tfs.len tfs.cap, .slice tks.a tks.len tks.cap] 55))) := Lib.hid (by repeat first|with_reducible exact Below.refl _ _|with_reducible refine Below.setCell ?_ (by first|omega|(simp;done)|(simp;omega)) _|with_reducible refine Below.alloc ?_ (by first|omega|(simp;done)|(simp;omega)) _|with_reducible refine Below.drew ?_|with_reducible refine Ext.on _ ?_ (by first|omega|(simp;done)|(simp;omega)))
    have h0s : (w.alloc (.cells #[.string tn, .slice ca sn cc, .slice tps.a tps.len tps.cap, .slice tus.a tus.len tus.cap, .slice tfs.a tfs.len tfs.cap, .slice tks.a tks.len tks.cap] 55)).heap.size = w.heap.size + 1 := by simp
    clear hbl
    generalize (w.alloc (.cells #[.string tn, .slice ca sn cc, .slice tps.a tps.len tps.cap, .slice tus.a tus.len tus.cap, .slice tfs.a tfs.len tfs.cap, .slice tks.a tks.len tks.cap] 55)) = W0 at *
    go_loopw [5, 20] (fun u i wr => ∃ (j : Nat) (l : List Vio), j ≤ sn ∧ i = .int .i64 j ∧ OwnO wr (w.heap.size + 1) u l ∧ l = cat j ∧ Cls W0 wr) (fun _ i _ => sn - (intOf i).toNat)
    case atStart => exact ⟨0, [], Nat.zero_le _, rfl, OwnO.nil _ _, HC0.out.symm, Cls.of (Below.refl _ _)⟩
    case round =>
      obtain ⟨j, l, hj, rfl, hown, hl, x, rfl⟩ := hrel
      have HO := Lib.hid hown
      have HL := Lib.hid hl
      have hln : l.length ≤ 8 := by have := HCL.out j; rw [hl]; omega
      clear hown hl
      have xs := x.size
      have HBX : Hid (Below w.heap.size w x.val) := Lib.hid (HB0.out.trans (x.below.mono (by omega)))
      obtain ⟨b0, _, _, _, _, _, _, k0, k1, k2, k3, k4, k5⟩ := six_z ((x.below.block _ (by omega)).trans HBL.out)
      by_cases hlt : j < sn
      · obtain ⟨b, off, ha, hb, hc⟩ := HS.out j hlt
        subst ha
        have q0 := hc 0 (by omega)
        have q1 := hc 1 (by omega)
        have q2 := hc 2 (by omega)
        simp only [vlC, List.getElem?_cons_zero, List.getElem?_cons_succ, Nat.add_zero] at q0 q1 q2
        rw [← HBX.out.cell (p := ⟨b, _, none⟩) hb] at q0 q1 q2
        have hb2 : b < x.val.heap.size := by omega
        have D1 := Lib.hid (C1.out j hlt hlt)
        have HCJ := Lib.hid (HCE.out j)
        have HNX := Lib.hid (HCN.out j)
        clear hc C1
        generalize ce j = cj at HCJ HNX
        generalize f j = v at *
        generalize vk j = kk at D1 HCJ
        obtain ⟨vvk, vvn, vvs⟩ := v
        simp only at q0 q1 q2 D1
        by_cases hk : kk = 0
        · subst hk
          have HN : Hid (l = cat (j + 1)) := Lib.hid (by rw [HNX.out, HCJ.out.1 rfl, List.append_nil]; exact HL.out)
          clear HCJ HNX
          go_wp2_with (go_at_call 114; ((with_reducible refine (D1.out _ ?_).mono ?_); (· (repeat first|with_reducible exact Below.refl _ _|with_reducible refine Below.setCell ?_ (by first|omega|(simp;done)|(simp;omega)) _|with_reducible refine Below.alloc ?_ (by first|omega|(simp;done)|(simp;omega)) _|with_reducible refine Below.drew ?_|with_reducible refine Ext.on _ ?_ (by first|omega|(simp;done)|(simp;omega)); exact HB0.out)); rintro r _ ⟨rfl, y, rfl⟩; have ys := y.size))
          go_roundw
          case rel => exact ⟨j + 1, l, by omega, by go_num, HO.out.later (by repeat first|with_reducible exact Below.refl _ _|with_reducible refine Below.setCell ?_ (by first|omega|(simp;done)|(simp;omega)) _|with_reducible refine Below.alloc ?_ (by first|omega|(simp;done)|(simp;omega)) _|with_reducible refine Below.drew ?_|with_reducible refine Ext.on _ ?_ (by first|omega|(simp;done)|(simp;omega))), HN.out, Cls.of (by repeat first|with_reducible exact Below.refl _ _|with_reducible refine Below.setCell ?_ (by first|omega|(simp;done)|(simp;omega)) _|with_reducible refine Below.alloc ?_ (by first|omega|(simp;done)|(simp;omega)) _|with_reducible refine Below.drew ?_|with_reducible refine Ext.on _ ?_ (by first|omega|(simp;done)|(simp;omega)))⟩
          case measure => simp [intOf]; omega
        · have HN : Hid (l ++ [⟨kk, 0, (j : Nat), 0, 0⟩] = cat (j + 1)) := Lib.hid (by rw [HNX.out, HCJ.out.2 hk, HL.out])
          have d1 : (kk == 0) = false := by simp [hk]
          rw [d1] at D1
          clear HCJ HNX hk d1
          go_wp2_with (first | (go_at_call 114; ((with_reducible refine (D1.out _ ?_).mono ?_); (· (repeat first|with_reducible exact Below.refl _ _|with_reducible refine Below.setCell ?_ (by first|omega|(simp;done)|(simp;omega)) _|with_reducible refine Below.alloc ?_ (by first|omega|(simp;done)|(simp;omega)) _|with_reducible refine Below.drew ?_|with_reducible refine Ext.on _ ?_ (by first|omega|(simp;done)|(simp;omega)); exact HB0.out)); rintro r _ ⟨rfl, y, rfl⟩; have ys := y.size; simp at ys)) | (at_builtin; refine append1_O rfl _ _ rfl (w.heap.size + 1) _ l rfl (HO.out.later (by repeat first|with_reducible exact Below.refl _ _|with_reducible refine Below.setCell ?_ (by first|omega|(simp;done)|(simp;omega)) _|with_reducible refine Below.alloc ?_ (by first|omega|(simp;done)|(simp;omega)) _|with_reducible refine Below.drew ?_|with_reducible refine Ext.on _ ?_ (by first|omega|(simp;done)|(simp;omega)))) ⟨y.val.heap.size, 0, none⟩ ⟨kk, 0, (j : Nat), 0, 0⟩ rfl (cells_atO _ _ rfl ⟨kk, 0, (j : Nat), 0, 0⟩ _) (by omega) (by simp; omega) ?_; intro v3 w3 hown3 hg3 hat3; have HO3 := Lib.hid hown3; have HG := Lib.hid hg3; clear hown3 hg3 hat3))
          go_roundw
          case rel =>
            refine ⟨j + 1, l ++ [⟨kk, 0, (j : Nat), 0, 0⟩], by omega, by go_num, HO3.out, HN.out, Cls.of (Below.grown (w := y.val.alloc _) ?_ HG.out (by simp; omega) (fun k hk => by have := (HO.out.lt k hk).1; omega))⟩
            repeat first|with_reducible exact Below.refl _ _|with_reducible refine Below.setCell ?_ (by first|omega|(simp;done)|(simp;omega)) _|with_reducible refine Below.alloc ?_ (by first|omega|(simp;done)|(simp;omega)) _|with_reducible refine Below.drew ?_|with_reducible refine Ext.on _ ?_ (by first|omega|(simp;done)|(simp;omega))
          case measure => simp [intOf]; omega
      · obtain rfl : j = sn := by omega
        go_wp2_with fail
        go_ret
        exact ⟨_, rfl, by rw [HR.out, ← HL.out]; exact HO.out, Cls.of HBX.out⟩
  · have d1 : ((sn : Int) == (cn : Int)) = false := by simp; omega
    have d2 : ((sn : Int) != (cn : Int)) = true := by simp; omega
    have HV := Lib.hid (HIS.out.2 hn)
    have hn2 : ¬ ((sn : Int) = (cn : Int)) := by omega
    clear HIS hn
    go_enter Tryz.func81, Tryz.ntmps81
    go_wp2_with fail
    go_ret
    refine ⟨_, rfl, ?_, Cls.of ?_⟩
    · rw [HV.out]
      have := World.ownsRow_lit (base := w.heap.size + 1) (e := 74) (size := 5) (w.alloc (.cells #[.string tn, .slice ca cn cc, .slice tps.a tps.len tps.cap, .slice tus.a tus.len tus.cap, .slice tfs.a tfs.len tfs.cap, .slice tks.a tks.len tks.cap] 55)) #[.int .i64 1, .int .i64 0, .int .i64 0, .int .i64 0, .int .i64 0] 1 (by simp) (by unfold maxLen; omega) rfl
      rw [World.size_alloc] at this
      exact this
    · repeat first|with_reducible exact Below.refl _ _|with_reducible refine Below.setCell ?_ (by first|omega|(simp;done)|(simp;omega)) _|with_reducible refine Below.alloc ?_ (by first|omega|(simp;done)|(simp;omega)) _|with_reducible refine Below.drew ?_|with_reducible refine Ext.on _ ?_ (by first|omega|(simp;done)|(simp;omega))
end Go.Proofs.YtdmhmlnfoocnjaaGreatDoor
