/-
  What the checks say of the rows of a table.
-/
import Derived.Test.YtdmhmlnfoocnjaaGreatDoorK38
import Derived.Test.YtdmhmlnfoocnjaaGreatDoorK17
import Derived.Test.YtdmhmlnfoocnjaaGreatDoorK02
import Derived.Test.YtdmhmlnfoocnjaaGreatDoorK42
set_option linter.unusedVariables false
namespace Go.Proofs.YtdmhmlnfoocnjaaGreatDoor
open Go Go.RowKit Go.Deep
theorem rowIs_sl {w : World} {s : Sl} {f : Nat → Vl} (hs : SlAt w 3 s (fun j => vlC (f j))) (hx : ∀ j, j < s.len → (f j).s.size ≤ maxLen) : RowIs w s.a s.len s.cap (rowVs s.len f) := by
  refine ⟨by simp [rowVs], hs.1, hs.2.1, fun v hv => ?_, ?_⟩
  · obtain ⟨i, hi, rfl⟩ := List.mem_map.1 hv
    exact hx i (by simpa using hi)
  · by_cases h0 : s.len = 0
    · exact .inl h0
    · obtain ⟨b, off, ha, hb, _⟩ := hs.2.2.2 0 (by omega)
      refine .inr ⟨b, off, ha, hb, fun i hi => ?_⟩
      obtain ⟨b', off', ha', _, hc⟩ := hs.2.2.2 i hi
      rw [ha] at ha'
      obtain ⟨rfl, rfl⟩ : b = b' ∧ off = off' := by simpa using ha'
      have hg : (rowVs s.len f).getD i Vl.z = f i := by simp [rowVs, List.getD, hi]
      have h0 := hc 0 (by omega)
      have h1 := hc 1 (by omega)
      have h2 := hc 2 (by omega)
      rw [hg]
      simp only [vlC, List.getElem?_cons_zero, List.getElem?_cons_succ, Nat.add_zero] at h0 h1 h2
      exact ⟨h0, h1, h2⟩
set_option maxHeartbeats 16000000 in
set_option maxRecDepth 20000 in
theorem inChecks_calls (t : Tb) (s : Sl) (iv : Value) (fit : Bool) (r : Nat → Sl) (f : Nat → Nat → Vl) (w : World) (h : TbAt w t) (hr : RwsAt w s r f) (hs : s.len ≤ 10000) (h4 : t.ks.len ≤ 4) (ho : OpsTab w) :
    Calls Tryz.prog 52 #[.agg #[.string t.name, .slice t.cs.a t.cs.len t.cs.cap, .slice t.ps.a t.ps.len t.ps.cap, .slice t.us.a t.us.len t.us.cap, .slice t.fs.a t.fs.len t.fs.cap, .slice t.ks.a t.ks.len t.ks.cap, .slice s.a s.len s.cap, iv, .bool fit]] w fun e w' => ∃ v, e = .returned v ∧ OwnO w' (w.heap.size + 1) v (chksO t r f s.len) ∧ Cls w w' := by
  have hle := hr.rows.1
  have hmax := hr.rows.2.1
  unfold maxLen at hmax
  have HRW := Lib.hid hr.rows.2.2.2
  have hkl := h.kids.le
  have hkm := h.kids.max
  have hkn := h.kids.len_eq
  unfold maxLen at hkm
  have HLN2 := Lib.hid hkn
  have HKA : Hid (∀ k, k < t.ks.len → ∃ b off a' l' c', t.ks.a = some ⟨b, off, none⟩ ∧ b < w.heap.size ∧ w.cell? ⟨b, off + k * 6, none⟩ = some (.int .i64 (t.checks.getD k Ex.z).op) ∧ w.cell? ⟨b, off + k * 6 + 1, none⟩ = some (.int .i64 (t.checks.getD k Ex.z).ty) ∧ w.cell? ⟨b, off + k * 6 + 2, none⟩ = some (.int .i64 (t.checks.getD k Ex.z).num) ∧
      w.cell? ⟨b, off + k * 6 + 3, none⟩ = some (.string (t.checks.getD k Ex.z).text) ∧ w.cell? ⟨b, off + k * 6 + 4, none⟩ = some (.int .i64 (t.checks.getD k Ex.z).col) ∧ w.cell? ⟨b, off + k * 6 + 5, none⟩ = some (.slice a' l' c') ∧ (t.checks.getD k Ex.z).fine ∧ Kids w (fun _ => True) a' l' c' (t.checks.getD k Ex.z).kids) := Lib.hid fun k hk => by
    have hk0 := h.kids
    cases hk0 with
    | mk a len cap l ad lens caps hl hc hm hn hcell hf hkk =>
      obtain ⟨b, off, ha, hb, _, c0, c1, c2, c3, c4, c5⟩ := hcell k (by omega)
      exact ⟨b, off, _, _, _, ha, hb, c0, c1, c2, c3, c4, c5, hf k (by omega), hkk k (by omega)⟩
  have C1 : Hid (∀ k j, k < t.ks.len → j < s.len → ∀ a' l' c' W, Below w.heap.size w W → Kids w (fun _ => True) a' l' c' (t.checks.getD k Ex.z).kids → (t.checks.getD k Ex.z).fine → Calls Tryz.prog 88 #[.agg #[.int .i64 (t.checks.getD k Ex.z).op, .int .i64 (t.checks.getD k Ex.z).ty, .int .i64 (t.checks.getD k Ex.z).num, .string (t.checks.getD k Ex.z).text, .int .i64 (t.checks.getD k Ex.z).col, .slice a' l' c'], .slice (r j).a (r j).len (r j).cap] W fun e w' => e = .returned (.agg #[.int .i64 (evalE (t.checks.getD k Ex.z) (rowVs (r j).len (f j))).k, .int .i64 (evalE (t.checks.getD k Ex.z) (rowVs (r j).len (f j))).n, .string (evalE (t.checks.getD k Ex.z) (rowVs (r j).len (f j))).s]) ∧ Cls W w') := Lib.hid fun k j hk hj a' l' c' W hW hkk hf => Eval_calls (t.checks.getD k Ex.z) a' l' c' _ (r j).a (r j).len (r j).cap _ W (hkk.later hW) hf (rowIs_sl ((hr.vals j hj).later hW) (hr.txt j hj)) (ho.later hW)
  have HCI : Hid (∀ k j, (trV (evalE (t.checks.getD k Ex.z) (rowVs (r j).len (f j))) = 0 → chkO (t.checks.getD k Ex.z) (k : Nat) r f j = [⟨7, 0, (k : Nat), (j : Nat), 0⟩]) ∧ (trV (evalE (t.checks.getD k Ex.z) (rowVs (r j).len (f j))) ≠ 0 → chkO (t.checks.getD k Ex.z) (k : Nat) r f j = [])) := Lib.hid fun k j => chkO_is _ _ r f j
  have HG0 : Hid (∀ k, chkG t r f 0 k = []) := Lib.hid fun k => rfl
  have HGN : Hid (∀ k j, chkG t r f (j + 1) k = chkG t r f j k ++ chkO (t.checks.getD k Ex.z) (k : Nat) r f j) := Lib.hid fun k j => rfl
  have HGL : Hid (∀ k j, (chkG t r f j k).length ≤ j) := Lib.hid fun k j => chkG_len t r f j k
  have HC0 : Hid (catN (chkG t r f s.len) 0 = []) := Lib.hid rfl
  have HCN : Hid (∀ k, catN (chkG t r f s.len) (k + 1) = catN (chkG t r f s.len) k ++ chkG t r f s.len k) := Lib.hid fun k => rfl
  have HCL : Hid (∀ k, (catN (chkG t r f s.len) k).length ≤ k * s.len) := Lib.hid fun k => catN_len fun i _ => chkG_len t r f s.len i
  have HCE : Hid (chksO t r f s.len = catN (chkG t r f s.len) t.ks.len) := Lib.hid rfl
  clear h hr ho
  generalize chksO t r f s.len = co at *
  generalize catN (chkG t r f s.len) = ct at *
  generalize hcg : (fun j k => chkG t r f j k) = cg at *
  have hcg2 : ∀ j k, chkG t r f j k = cg j k := fun j k => by rw [← hcg]
  simp only [hcg2] at HG0 HGN HGL HCN
  clear hcg2 hcg
  generalize hck : (fun k j => chkO (t.checks.getD k Ex.z) (k : Nat) r f j) = ck at *
  have hck2 : ∀ (k j : Nat), chkO (t.checks.getD k Ex.z) (k : Nat) r f j = ck k j := fun k j => by rw [← hck]
  simp only [hck2] at HCI HGN
  clear hck2 hck
  generalize hev : (fun k j => evalE (t.checks.getD k Ex.z) (rowVs (r j).len (f j))) = ev at *
  have hev2 : ∀ k j, evalE (t.checks.getD k Ex.z) (rowVs (r j).len (f j)) = ev k j := fun k j => by rw [← hev]
  simp only [hev2] at HCI C1
  clear hev2 hev
  generalize hce : (fun k => t.checks.getD k Ex.z) = ce at *
  have hce2 : ∀ k, t.checks.getD k Ex.z = ce k := fun k => by rw [← hce]
  simp only [hce2] at C1 HKA
  clear hce2 hce
  obtain ⟨tn, ⟨ca, cn, cc⟩, tf, tps, tprim, tus, tuq, tuqn, tfs, tfk, tfkn, tfkt, ⟨ka, kn, kc⟩, tch⟩ := t
  obtain ⟨sa, sn, sc⟩ := s
  simp only at hle hmax HRW C1 hs h4 hkl hkm HKA HCE HCL ⊢
  go_enter Tryz.func52, Tryz.ntmps52
  have hbl1 : (w.alloc (.cells #[.string tn, .slice ca cn cc, .slice tps.a tps.len tps.cap, .slice tus.a tus.len tus.cap, .slice tfs.a tfs.len tfs.cap, .slice ka kn kc, .slice sa sn sc, iv, .bool fit] 98)).heap[w.heap.size]? = some (.cells #[.string tn, .slice ca cn cc, .slice tps.a tps.len tps.cap, .slice tus.a tus.len tus.cap, .slice tfs.a tfs.len tfs.cap, .slice ka kn kc, .slice sa sn sc, iv, .bool fit] 98) := heap_alloc_new w _
  have HX := Lib.hid hbl1
  obtain ⟨b0, _, _, _, _, _, _, _, _, _, n0, n1, n2, n3, n4, n5, n6, n7, n8⟩ := nine_z hbl1
  have HB0 : Hid (Below w.heap.size w (w.alloc (.cells #[.string tn, .slice ca cn cc, .slice tps.a tps.len tps.cap, .slice tus.a tus.len tus.cap, .slice tfs.a tfs.len tfs.cap, .slice ka kn kc, .slice sa sn sc, iv, .bool fit] 98))) := Lib.hid (by repeat first|with_reducible exact Below.refl _ _|with_reducible refine Below.setCell ?_ (by first|omega|(simp;done)|(simp;omega)) _|with_reducible refine Below.alloc ?_ (by first|omega|(simp;done)|(simp;omega)) _|with_reducible refine Below.drew ?_|with_reducible refine Ext.on _ ?_ (by first|omega|(simp;done)|(simp;omega)))
  go_wp2_with fail
  have hws : (w.alloc (.cells #[.string tn, .slice ca cn cc, .slice tps.a tps.len tps.cap, .slice tus.a tus.len tus.cap, .slice tfs.a tfs.len tfs.cap, .slice ka kn kc, .slice sa sn sc, iv, .bool fit] 98)).heap.size = w.heap.size + 1 := by simp
  clear hbl1 n0 n1 n2 n3 n4 n5 n6 n7 n8
  generalize (w.alloc (.cells #[.string tn, .slice ca cn cc, .slice tps.a tps.len tps.cap, .slice tus.a tus.len tus.cap, .slice tfs.a tfs.len tfs.cap, .slice ka kn kc, .slice sa sn sc, iv, .bool fit] 98)) = W0 at *
  go_loopw [3, 12] (fun u i wr => ∃ (k : Nat) (l : List Vio), k ≤ kn ∧ i = .int .i64 k ∧ OwnO wr (w.heap.size + 1) u l ∧ l = ct k ∧ Cls W0 wr) (fun _ i _ => kn - (intOf i).toNat)
  case atStart => exact ⟨0, [], Nat.zero_le _, rfl, OwnO.nil _ _, HC0.out.symm, Cls.of (Below.refl _ _)⟩
  case round =>
    obtain ⟨k, l, hk, rfl, ho, hl, x, rfl⟩ := hrel
    have HO := Lib.hid ho
    have HL := Lib.hid hl
    have hln : l.length ≤ 40000 := by
      have h1 := HCL.out k
      rw [hl]
      have h3 : k * sn ≤ 4 * 10000 := Nat.mul_le_mul (by omega) hs
      omega
    clear ho hl
    have xs := x.size
    have HXX := Lib.hid ((x.below.block _ b0).trans HX.out)
    obtain ⟨b2, _, _, _, _, _, _, _, _, _, n0, n1, n2, n3, n4, n5, n6, n7, n8⟩ := nine_z HXX.out
    have HBX : Hid (Below w.heap.size w x.val) := Lib.hid (x.on HB0.out (by omega))
    by_cases hlt : k < kn
    · obtain ⟨b, off, ea, el, ec, ha, hb, q0, q1, q2, q3, q4, q5, hfi, hkk⟩ := HKA.out k hlt
      subst ha
      rw [← HBX.out.cell (p := ⟨b, _, none⟩) hb] at q0 q1 q2 q3 q4 q5
      have hb2 : b < x.val.heap.size := by omega
      have D1 : Hid (∀ j, j < sn → ∀ W, Below w.heap.size w W → Calls Tryz.prog 88 #[.agg #[.int .i64 (ce k).op, .int .i64 (ce k).ty, .int .i64 (ce k).num, .string (ce k).text, .int .i64 (ce k).col, .slice ea el ec], .slice (r j).a (r j).len (r j).cap] W fun e w' => e = .returned (.agg #[.int .i64 (ev k j).k, .int .i64 (ev k j).n, .string (ev k j).s]) ∧ Cls W w') := Lib.hid fun j hj W hW => C1.out k j hlt hj ea el ec W hW hkk hfi
      have HNX := Lib.hid (HCN.out k)
      have HGK : Hid (∀ j, (cg j k).length ≤ j) := Lib.hid (HGL.out k)
      have HGS : Hid (∀ j, cg (j + 1) k = cg j k ++ ck k j) := Lib.hid (HGN.out k)
      have HGZ := Lib.hid (HG0.out k)
      have HCK : Hid (∀ j, (trV (ev k j) = 0 → ck k j = [⟨7, 0, (k : Nat), (j : Nat), 0⟩]) ∧ (trV (ev k j) ≠ 0 → ck k j = [])) := Lib.hid (HCI.out k)
      clear hfi hkk C1 HKA
      generalize ce k = e at *
      obtain ⟨eo, et, en, ex, el2, eks⟩ := e
      simp only [Ex.op, Ex.ty, Ex.num, Ex.text, Ex.col] at q0 q1 q2 q3 q4 D1
      have HEB : Hid ((x.val.alloc (.cells #[.int .i64 eo, .int .i64 et, .int .i64 en, .string ex, .int .i64 el2, .slice ea el ec] 64)).heap[x.val.heap.size]? = some (.cells #[.int .i64 eo, .int .i64 et, .int .i64 en, .string ex, .int .i64 el2, .slice ea el ec] 64)) := Lib.hid (heap_alloc_new _ _)
      have HBE : Hid (Below w.heap.size w (x.val.alloc (.cells #[.int .i64 eo, .int .i64 et, .int .i64 en, .string ex, .int .i64 el2, .slice ea el ec] 64))) := Lib.hid (HBX.out.alloc (by omega) _)
      have HWE : Hid (Below W0.heap.size W0 (x.val.alloc (.cells #[.int .i64 eo, .int .i64 et, .int .i64 en, .string ex, .int .i64 el2, .slice ea el ec] 64))) := Lib.hid (x.below.alloc xs _)
      have HOE : Hid (OwnO (x.val.alloc (.cells #[.int .i64 eo, .int .i64 et, .int .i64 en, .string ex, .int .i64 el2, .slice ea el ec] 64)) (w.heap.size + 1) u3 l) := Lib.hid (HO.out.later ((Below.refl _ _).alloc (Nat.le_refl _) _))
      have hes : (x.val.alloc (.cells #[.int .i64 eo, .int .i64 et, .int .i64 en, .string ex, .int .i64 el2, .slice ea el ec] 64)).heap.size = x.val.heap.size + 1 := by simp
      go_wp2_with fail
      clear n0 n1 n2 n3 n4 n5 n6 n7 n8 q0 q1 q2 q3 q4 q5
      generalize (x.val.alloc (.cells #[.int .i64 eo, .int .i64 et, .int .i64 en, .string ex, .int .i64 el2, .slice ea el ec] 64)) = XE at *
      generalize x.val.heap.size = eb at *
      go_loopw [3, 20] (fun u i wr => ∃ (j : Nat), j ≤ sn ∧ i = .int .i64 j ∧ OwnO wr (w.heap.size + 1) u (l ++ cg j k) ∧ wr.heap[eb]? = some (.cells #[.int .i64 eo, .int .i64 et, .int .i64 en, .string ex, .int .i64 el2, .slice ea el ec] 64) ∧ Cls W0 wr) (fun _ i _ => sn - (intOf i).toNat)
      case atStart => exact ⟨0, Nat.zero_le _, rfl, by rw [HGZ.out, List.append_nil]; exact HOE.out, HEB.out, Cls.of HWE.out⟩
      case round =>
        obtain ⟨j, hj, rfl, ho, heb, y, rfl⟩ := hrel
        have HO2 := Lib.hid ho
        have HEY := Lib.hid heb
        have hebl : eb < y.val.heap.size := (Array.getElem?_eq_some_iff.1 heb).1
        clear heb
        have hl2 : (l ++ cg j k).length ≤ 50000 := by
          have h1 := HGK.out j
          rw [List.length_append]
          omega
        clear ho
        have ys := y.size
        have HBY : Hid (Below w.heap.size w y.val) := Lib.hid (y.on HB0.out (by omega))
        by_cases hlt2 : j < sn
        · obtain ⟨b, off, ha, hb, hc⟩ := HRW.out j hlt2
          subst ha
          have q0 := hc 0 (by omega)
          simp only [Sl.v, List.getElem?_cons_zero, Nat.add_zero, Nat.mul_one] at q0
          rw [← HBY.out.cell (p := ⟨b, _, none⟩) hb] at q0
          have hb2 : b < y.val.heap.size := by omega
          have E1 := Lib.hid (D1.out j hlt2)
          obtain ⟨hc1, hc2⟩ := HCK.out j
          have HC1 := Lib.hid hc1
          have HC2 := Lib.hid hc2
          have HGJ := Lib.hid (HGS.out j)
          obtain ⟨e0, _, _, _, _, _, _, m0, m1, m2, m3, m4, m5⟩ := six_z HEY.out
          clear hc hc1 hc2 D1 HCK HRW
          generalize r j = u at *
          generalize hvv : ev k j = vv at *
          obtain ⟨ua, un, uc⟩ := u
          obtain ⟨vk, vn, vs⟩ := vv
          simp only at q0 E1
          have HT : Hid (trV ⟨vk, vn, vs⟩ = truT vk vn) := Lib.hid rfl
          have T1 : Hid (∀ W, Calls Tryz.prog 87 #[.agg #[.int .i64 vk, .int .i64 vn, .string vs]] W fun e w' => e = .returned (.int .i64 (truT vk vn)) ∧ Cls W w') := Lib.hid fun W => Truth_calls vk vn vs W
          generalize truT vk vn = tt at *
          by_cases ht : tt = 0
          · have HN : Hid ((l ++ cg j k) ++ [⟨7, 0, (k : Nat), (j : Nat), 0⟩] = l ++ cg (j + 1) k) := Lib.hid (by rw [HGJ.out, HC1.out (by rw [HT.out]; exact ht), List.append_assoc])
            subst ht
            go_wp2_with (first | (go_at_call 88; ((with_reducible refine (E1.out _ HBY.out).mono ?_); rintro e _ ⟨rfl, z, rfl⟩; have zs := z.size)) | (go_at_call 87; ((with_reducible refine (T1.out _).mono ?_); rintro e _ ⟨rfl, z2, rfl⟩; have z2s := z2.size)) | (at_builtin; refine append1_O rfl _ _ rfl (w.heap.size + 1) u3 (l ++ cg j k) rfl (((HO2.out.later z.below).later z2.below).later ((Below.refl _ _).alloc (Nat.le_refl _) _)) ⟨z2.val.heap.size, 0, none⟩ ⟨7, 0, (k : Nat), (j : Nat), 0⟩ rfl (cells_atO _ _ rfl ⟨7, 0, (k : Nat), (j : Nat), 0⟩ _) (by omega) (by simp; omega) ?_; intro v3 w3 hown3 hg3 hat3; have HO3 := Lib.hid hown3; have HG := Lib.hid hg3; clear hown3 hg3 hat3))
            go_roundw
            case rel => exact ⟨j + 1, by omega, by go_num, by rw [← HN.out]; exact HO3.out, by rw [HG.out.block _ (by simp; omega) (fun e => own_ne_z HO2.out HEY.out (by decide) _ e.symm rfl), Below.heap_alloc _ _ _ (by omega), z2.below.block _ (by omega), z.below.block _ hebl]; exact HEY.out, Cls.of (Below.grown (w := z2.val.alloc _) ((z2.on (z.on y.below (by omega)) (by omega)).alloc (by omega) _) HG.out (by simp; omega) (fun k hk => by have := (HO2.out.lt k hk).1; omega))⟩
            case measure => simp [intOf]; omega
          · have d1 : (tt == 0) = false := by simp [ht]
            have HN : Hid (l ++ cg j k = l ++ cg (j + 1) k) := Lib.hid (by rw [HGJ.out, HC2.out (by rw [HT.out]; exact ht), List.append_nil])
            clear ht
            go_wp2_with (first | (go_at_call 88; ((with_reducible refine (E1.out _ HBY.out).mono ?_); rintro e _ ⟨rfl, z, rfl⟩; have zs := z.size)) | (go_at_call 87; ((with_reducible refine (T1.out _).mono ?_); rintro e _ ⟨rfl, z2, rfl⟩; have z2s := z2.size)))
            go_roundw
            case rel => exact ⟨j + 1, by omega, by go_num, by rw [← HN.out]; exact (HO2.out.later z.below).later z2.below, by rw [z2.below.block _ (by omega), z.below.block _ hebl]; exact HEY.out, Cls.of (z2.on (z.on y.below (by omega)) (by omega))⟩
            case measure => simp [intOf]; omega
        · obtain rfl : j = sn := by omega
          have HN : Hid (l ++ cg j k = ct (k + 1)) := Lib.hid (by rw [HNX.out, HL.out])
          go_wp2_with fail
          go_roundw
          case rel => exact ⟨k + 1, _, by omega, by go_num, HO2.out, HN.out, y, rfl⟩
          case measure => simp [intOf]; omega
    · obtain rfl : k = kn := by omega
      go_wp2_with fail
      go_ret
      exact ⟨_, rfl, by rw [HCE.out, ← HL.out]; exact HO.out, Cls.of HBX.out⟩
end Go.Proofs.YtdmhmlnfoocnjaaGreatDoor
set_option linter.unusedVariables false
namespace Go.Proofs.YtdmhmlnfoocnjaaGreatDoor
open Go Go.RowKit Go.Deep Go.Maps
theorem tp_grow2 {a w w' : World} {T : Nat} {row : Option Nat} (h : Tp T a w) (hg : w.grownBy w' row) (hr : ∀ k, row = some k → k = T ∨ a.heap.size ≤ k) : Tp T a w' :=
  ⟨hg.os.trans h.os, hg.tape.trans h.tape, hg.output.trans h.output, Nat.le_trans h.size hg.size, fun k hk hT => (hg.block k (Nat.lt_of_lt_of_le hk h.size) (fun e => by have := hr k e.symm; omega)).trans (h.block k hk hT)⟩
theorem tp_low {B T : Nat} {w w' : World} (h : Tp T w w') (hB : B ≤ w.heap.size) (hT : B ≤ T) : Below B w w' := h.toBelow hB hT
theorem blk_is {v : Value} {n g : Nat} (h : v.ownBlock = some g) : g = blkOf v n := by unfold blkOf; rw [h]; rfl
theorem blk_ge {w : World} {base : Nat} {v : Value} {L : List Vio} (h : OwnO w base v L) {n : Nat} (hn : base ≤ n) : base ≤ blkOf v n := by
  unfold blkOf
  rcases hv : v.ownBlock with _ | g
  · exact hn
  · exact (h.lt g hv).1
theorem own_step {u v u' : Value} {n m : Nat} (h : u.ownBlock = v.ownBlock ∨ ∀ g, u.ownBlock = some g → n ≤ g) (h' : u'.ownBlock = u.ownBlock ∨ u'.ownBlock = some m) (hm : n ≤ m) : u'.ownBlock = v.ownBlock ∨ ∀ g, u'.ownBlock = some g → n ≤ g := by
  rcases h' with h1 | h1
  · rw [h1]; exact h
  · right
    intro g hg
    rw [h1] at hg
    have := Option.some.inj hg
    omega
theorem own_tpk {u v : Value} {n m : Nat} (h : u.ownBlock = v.ownBlock ∨ ∀ g, u.ownBlock = some g → n ≤ g) (k : Nat) (hk : u.ownBlock = some k) : k = blkOf v m ∨ n ≤ k := by
  rcases h with h1 | h1
  · exact .inl (blk_is (h1 ▸ hk))
  · exact .inr (h1 k hk)
set_option maxHeartbeats 16000000 in
set_option maxRecDepth 20000 in
theorem violations_calls (sl : Sl) (tb : Nat → Tb) (s : Sl) (t : Nat → Sl) (r : Nat → Nat → Sl) (f : Nat → Nat → Nat → Vl) (ds : Sl) (iv : Nat → Value) (i base : Nat) (w0 w : World) (h : TabsAt w0 sl tb) (hi : InsAt w0 s t r f) (ho : OpsTab w0) (hw : Below w0.heap.size w0 w) (hb : w0.heap.size ≤ base) (hbw : base ≤ w.heap.size)
    (hds : SlAt w 9 ds (xCs tb t r f iv)) (hdl : ds.len = sl.len) (hn : s.len = sl.len) (hiv : ∀ k, k < sl.len → ∃ a n c, iv k = .slice a n c) (hown : OwnO w base (iv i) (rowsO (tb i) (r i) (f i) (t i).len)) (hsep : ∀ b off, ds.a = some ⟨b, off, none⟩ → (iv i).ownBlock ≠ some b) (hii : i < sl.len) (hok : ∀ k, k < sl.len → TbOk sl tb k) (hs : ∀ k, k < sl.len → (t k).len ≤ 10000) :
    Calls Tryz.prog 29 #[.agg #[.slice sl.a sl.len sl.cap, .slice ds.a ds.len ds.cap], .int .i64 (i : Nat)] w fun e w' => ∃ v, e = .returned v ∧ OwnO w' base v (tabO sl tb t r f i) ∧ Tp (blkOf (iv i) (w.heap.size + 2)) w w' ∧ (v.ownBlock = (iv i).ownBlock ∨ ∀ g, v.ownBlock = some g → w.heap.size ≤ g) := by
  have hO := hok i hii
  have hdle := hds.1
  have hdmax := hds.2.1
  unfold maxLen at hdmax
  obtain ⟨xb, xoff, hxa, hxb, hxc⟩ := hds.2.2.2 i (by omega)
  have hxT : xb ≠ blkOf (iv i) (w.heap.size + 2) := by
    unfold blkOf
    rcases hv : (iv i).ownBlock with _ | g
    · show xb ≠ w.heap.size + 2
      omega
    · intro e
      exact hsep xb xoff hxa (by rw [hv]; exact congrArg some e.symm)
  have hTlo : base ≤ blkOf (iv i) (w.heap.size + 2) := blk_ge hown (by omega)
  have hrl : fitT tb t r f i = true → ∀ n, n < (t i).len → (r i n).len = (tb i).cs.len := fun hf n hn => fitO_row hf hn
  have hL0 := rowsO_len (tb i) (r i) (f i) (t i).len hO.cs
  have hsi := hs i hii
  -- what is called, in worlds that are as they were below base
  have CK : Hid (fitT tb t r f i = true → ∀ W, Below base w W → Calls Tryz.prog 50 #[.agg #[.string (tb i).name, .slice (tb i).cs.a (tb i).cs.len (tb i).cs.cap, .slice (tb i).ps.a (tb i).ps.len (tb i).ps.cap, .slice (tb i).us.a (tb i).us.len (tb i).us.cap, .slice (tb i).fs.a (tb i).fs.len (tb i).fs.cap, .slice (tb i).ks.a (tb i).ks.len (tb i).ks.cap, .slice (t i).a (t i).len (t i).cap, iv i, .bool (fitT tb t r f i)]] W fun e w' => ∃ v, e = .returned v ∧ OwnO w' (W.heap.size + 1) v (keysO (tb i) (f i) (t i).len) ∧ Cls W w') := Lib.hid fun hf W hW => by
    have hWW := hw.trans (hW.mono hb)
    exact inKeys_calls (tb i) (t i) (iv i) _ (r i) (f i) W ((h.2 i hii).later hWW) ((hi.rws i (by omega)).later hWW) (hrl hf) hO.prim hO.uqs hsi hO.us (own_one hown)
  have CC : Hid (∀ W, Below base w W → Calls Tryz.prog 52 #[.agg #[.string (tb i).name, .slice (tb i).cs.a (tb i).cs.len (tb i).cs.cap, .slice (tb i).ps.a (tb i).ps.len (tb i).ps.cap, .slice (tb i).us.a (tb i).us.len (tb i).us.cap, .slice (tb i).fs.a (tb i).fs.len (tb i).fs.cap, .slice (tb i).ks.a (tb i).ks.len (tb i).ks.cap, .slice (t i).a (t i).len (t i).cap, iv i, .bool (fitT tb t r f i)]] W fun e w' => ∃ v, e = .returned v ∧ OwnO w' (W.heap.size + 1) v (chksO (tb i) (r i) (f i) (t i).len) ∧ Cls W w') := Lib.hid fun W hW => by
    have hWW := hw.trans (hW.mono hb)
    exact inChecks_calls (tb i) (t i) (iv i) _ (r i) (f i) W ((h.2 i hii).later hWW) ((hi.rws i (by omega)).later hWW) hsi hO.ks (ho.later hWW)
  have CF : Hid (fitT tb t r f i = true → ∀ W, Tp (blkOf (iv i) (w.heap.size + 2)) w W → Calls Tryz.prog 51 #[.agg #[.slice sl.a sl.len sl.cap, .slice ds.a ds.len ds.cap], .int .i64 (i : Nat)] W fun e w' => ∃ v, e = .returned v ∧ OwnO w' (W.heap.size + 1) v (forsO sl tb t r f i) ∧ Cls W w') := Lib.hid fun hf W hW => by
    have hWW := hw.trans ((tp_low hW hbw hTlo).mono hb)
    refine inForeigns_calls sl tb s t r f ds iv i W (h.later hWW) (hi.later hWW) (hds.tp hW fun b off ha => ?_) hdl hn hiv hii hok hf hs
    rw [hxa] at ha
    have e1 : xb = b := by simpa using congrArg (Option.map Addr.block) ha
    rw [← e1]
    exact hxT
  obtain ⟨ht1, ht2⟩ := tabO_is sl tb t r f i
  have HT1 := Lib.hid ht1
  have HT2 := Lib.hid ht2
  have HKL := Lib.hid (keysO_len (tb i) (f i) (t i).len)
  have HFL := Lib.hid (forsO_len sl tb t r f i)
  have HCL := Lib.hid (chksO_len (tb i) (r i) (f i) (t i).len)
  have hkl : (keysO (tb i) (f i) (t i).len).length ≤ 40000 := by
    have h1 := HKL.out
    have h2 : (tb i).us.len * (t i).len ≤ 3 * 10000 := Nat.mul_le_mul hO.us hsi
    omega
  have hfl : (forsO sl tb t r f i).length ≤ 30000 := by
    have h1 := HFL.out
    have h2 : (tb i).fs.len * (t i).len ≤ 3 * 10000 := Nat.mul_le_mul hO.fs hsi
    omega
  have hcl : (chksO (tb i) (r i) (f i) (t i).len).length ≤ 40000 := by
    have h1 := HCL.out
    have h2 : (tb i).ks.len * (t i).len ≤ 4 * 10000 := Nat.mul_le_mul hO.ks hsi
    omega
  have HOW := Lib.hid hown
  simp only [xCs_is] at hxc
  obtain ⟨va, vn, vc, eiv⟩ := hiv i hii
  have x0 := hxc 0 (by omega)
  have x1 := hxc 1 (by omega)
  have x2 := hxc 2 (by omega)
  have x3 := hxc 3 (by omega)
  have x4 := hxc 4 (by omega)
  have x5 := hxc 5 (by omega)
  have x6 := hxc 6 (by omega)
  have x7 := hxc 7 (by omega)
  have x8 := hxc 8 (by omega)
  simp only [List.getElem?_cons_zero, List.getElem?_cons_succ, Nat.add_zero] at x0 x1 x2 x3 x4 x5 x6 x7 x8
  clear h hi ho hw hb hds hn hiv hok hs hO hxc ht1 ht2 HKL HFL HCL hsep hown hrl
  generalize tabO sl tb t r f i = to at *
  generalize keysO (tb i) (f i) (t i).len = KO at *
  generalize forsO sl tb t r f i = FO at *
  generalize chksO (tb i) (r i) (f i) (t i).len = CO at *
  generalize rowsO (tb i) (r i) (f i) (t i).len = RO at *
  generalize hfi : fitT tb t r f i = fi at *
  generalize tb i = ti at *
  generalize t i = tti at *
  generalize iv i = vi at *
  subst eiv
  clear hfi
  obtain ⟨la, ln, lc⟩ := sl
  obtain ⟨dsa, dsn, dsc⟩ := ds
  obtain ⟨ta, tn, tc⟩ := tti
  simp only at hdle hdmax hdl hxa hsi hii x6 CK CC CF HT1 HT2 hL0 ⊢
  subst hxa hdl
  cases fi
  · have HE := Lib.hid (HT2.out rfl)
    go_enter Tryz.func29, Tryz.ntmps29
    go_wp2_with fail
    go_ret
    exact ⟨_, rfl, by rw [HE.out]; exact (HOW.out.later ((Below.refl _ _).alloc (Nat.le_refl _) _)).later ((Below.refl _ _).alloc (Nat.le_refl _) _), ((Tp.refl _ _).alloc _).alloc _, .inl rfl⟩
  · have HE := Lib.hid (HT1.out rfl)
    have CK2 := Lib.hid (CK.out rfl)
    have CF2 := Lib.hid (CF.out rfl)
    clear HT1 HT2 CK CF
    have hbl0 : ((w.alloc (.cells #[.slice la dsn lc, .slice (some ⟨xb, xoff, none⟩) dsn dsc] 70)).alloc (.cells #[.string ti.name, .slice ti.cs.a ti.cs.len ti.cs.cap, .slice ti.ps.a ti.ps.len ti.ps.cap, .slice ti.us.a ti.us.len ti.us.cap, .slice ti.fs.a ti.fs.len ti.fs.cap, .slice ti.ks.a ti.ks.len ti.ks.cap, .slice ta tn tc, .slice va vn vc, .bool true] 98)).heap[w.heap.size]? = some (.cells #[.slice la dsn lc, .slice (some ⟨xb, xoff, none⟩) dsn dsc] 70) := by
      rw [Below.heap_alloc _ _ _ (by simp)]
      exact heap_alloc_new w _
    have hbl1 : ((w.alloc (.cells #[.slice la dsn lc, .slice (some ⟨xb, xoff, none⟩) dsn dsc] 70)).alloc (.cells #[.string ti.name, .slice ti.cs.a ti.cs.len ti.cs.cap, .slice ti.ps.a ti.ps.len ti.ps.cap, .slice ti.us.a ti.us.len ti.us.cap, .slice ti.fs.a ti.fs.len ti.fs.cap, .slice ti.ks.a ti.ks.len ti.ks.cap, .slice ta tn tc, .slice va vn vc, .bool true] 98)).heap[w.heap.size + 1]? = some (.cells #[.string ti.name, .slice ti.cs.a ti.cs.len ti.cs.cap, .slice ti.ps.a ti.ps.len ti.ps.cap, .slice ti.us.a ti.us.len ti.us.cap, .slice ti.fs.a ti.fs.len ti.fs.cap, .slice ti.ks.a ti.ks.len ti.ks.cap, .slice ta tn tc, .slice va vn vc, .bool true] 98) := by
      have := heap_alloc_new (w.alloc (.cells #[.slice la dsn lc, .slice (some ⟨xb, xoff, none⟩) dsn dsc] 70)) (.cells #[.string ti.name, .slice ti.cs.a ti.cs.len ti.cs.cap, .slice ti.ps.a ti.ps.len ti.ps.cap, .slice ti.us.a ti.us.len ti.us.cap, .slice ti.fs.a ti.fs.len ti.fs.cap, .slice ti.ks.a ti.ks.len ti.ks.cap, .slice ta tn tc, .slice va vn vc, .bool true] 98)
      simpa using this
    have HL0 := Lib.hid hbl0
    have HL1 := Lib.hid hbl1
    have HTW : Hid (Tp (blkOf (.slice va vn vc) (w.heap.size + 2)) w ((w.alloc (.cells #[.slice la dsn lc, .slice (some ⟨xb, xoff, none⟩) dsn dsc] 70)).alloc (.cells #[.string ti.name, .slice ti.cs.a ti.cs.len ti.cs.cap, .slice ti.ps.a ti.ps.len ti.ps.cap, .slice ti.us.a ti.us.len ti.us.cap, .slice ti.fs.a ti.fs.len ti.fs.cap, .slice ti.ks.a ti.ks.len ti.ks.cap, .slice ta tn tc, .slice va vn vc, .bool true] 98))) := Lib.hid (((Tp.refl _ _).alloc _).alloc _)
    have HOX : Hid (OwnO ((w.alloc (.cells #[.slice la dsn lc, .slice (some ⟨xb, xoff, none⟩) dsn dsc] 70)).alloc (.cells #[.string ti.name, .slice ti.cs.a ti.cs.len ti.cs.cap, .slice ti.ps.a ti.ps.len ti.ps.cap, .slice ti.us.a ti.us.len ti.us.cap, .slice ti.fs.a ti.fs.len ti.fs.cap, .slice ti.ks.a ti.ks.len ti.ks.cap, .slice ta tn tc, .slice va vn vc, .bool true] 98)) base (.slice va vn vc) RO) := Lib.hid ((HOW.out.later ((Below.refl _ _).alloc (Nat.le_refl _) _)).later ((Below.refl _ _).alloc (Nat.le_refl _) _))
    have h0s : w.heap.size + 2 ≤ ((w.alloc (.cells #[.slice la dsn lc, .slice (some ⟨xb, xoff, none⟩) dsn dsc] 70)).alloc (.cells #[.string ti.name, .slice ti.cs.a ti.cs.len ti.cs.cap, .slice ti.ps.a ti.ps.len ti.ps.cap, .slice ti.us.a ti.us.len ti.us.cap, .slice ti.fs.a ti.fs.len ti.fs.cap, .slice ti.ks.a ti.ks.len ti.ks.cap, .slice ta tn tc, .slice va vn vc, .bool true] 98)).heap.size := by simp
    have hlt5 : ∀ g, (Value.slice va vn vc).ownBlock = some g → g < w.heap.size := fun g hg => (HOW.out.lt g hg).2
    clear hbl0 hbl1
    go_enter Tryz.func29, Tryz.ntmps29
    go_wp2_with fail
    generalize ((w.alloc (.cells #[.slice la dsn lc, .slice (some ⟨xb, xoff, none⟩) dsn dsc] 70)).alloc (.cells #[.string ti.name, .slice ti.cs.a ti.cs.len ti.cs.cap, .slice ti.ps.a ti.ps.len ti.ps.cap, .slice ti.us.a ti.us.len ti.us.cap, .slice ti.fs.a ti.fs.len ti.fs.cap, .slice ti.ks.a ti.ks.len ti.ks.cap, .slice ta tn tc, .slice va vn vc, .bool true] 98)) = X at *
    clear x0 x1 x2 x3 x4 x5 x6 x7 x8
    obtain ⟨b0, _, _, _, _, _, _, _, _, _, n0, n1, n2, n3, n4, n5, n6, n7, n8⟩ := nine_z HL1.out
    have o1 : w.heap.size + 1 ≠ blkOf (.slice va vn vc) (w.heap.size + 2) := by
      unfold blkOf
      rcases hv : (Value.slice va vn vc).ownBlock with _ | g
      · show w.heap.size + 1 ≠ w.heap.size + 2
        omega
      · have := hlt5 g hv
        show w.heap.size + 1 ≠ g
        omega
    have HBX : Hid (Below base w X) := Lib.hid (tp_low HTW.out hbw hTlo)
    have o0 : w.heap.size ≠ blkOf (.slice va vn vc) (w.heap.size + 2) := by
      unfold blkOf
      rcases hv : (Value.slice va vn vc).ownBlock with _ | g
      · show w.heap.size ≠ w.heap.size + 2
        omega
      · have := hlt5 g hv
        show w.heap.size ≠ g
        omega
    have HX1 : Hid (∀ W, Tp (blkOf (.slice va vn vc) (w.heap.size + 2)) X W → W.heap[w.heap.size + 1]? = some (.cells #[.string ti.name, .slice ti.cs.a ti.cs.len ti.cs.cap, .slice ti.ps.a ti.ps.len ti.ps.cap, .slice ti.us.a ti.us.len ti.us.cap, .slice ti.fs.a ti.fs.len ti.fs.cap, .slice ti.ks.a ti.ks.len ti.ks.cap, .slice ta tn tc, .slice va vn vc, .bool true] 98)) := Lib.hid fun W hW => (hW.block _ (by omega) o1).trans HL1.out
    have HXW : Hid (∀ W, Tp (blkOf (.slice va vn vc) (w.heap.size + 2)) X W → Tp (blkOf (.slice va vn vc) (w.heap.size + 2)) w W) := Lib.hid fun W hW => HTW.out.trans hW
    refine LM.wp_region_lin_in (C := fun w' => ∃ y : LatB (blkOf (.slice va vn vc) (w.heap.size + 2)) X, w' = y.val) (fun x => ⟨⟨x.val, (Tp.refl _ _).ext x⟩, rfl⟩) (by kernel_rfl) (by kernel_rfl) ?_
    intro x0
    have x0s := x0.size
    repeat (refine LM.lin_calm rfl ?_; intro KK hKK; go_big_quiet_step (fail); refine wpQuiet_nil ?_; refine hKK _ ?_; clear hKK KK)
    refine LM.lin_free rfl ?_
    intro KK hKK
    go_wp2_with (go_at_call 50; ((with_reducible refine (CK2.out _ (x0.on HBX.out (by omega))).mono ?_); rintro e w1 ⟨v, rfl, hov, y, rfl⟩; have HV := Lib.hid hov; clear hov; have ys := y.size))
    have HTY : Hid (Tp (blkOf (.slice va vn vc) (w.heap.size + 2)) X y.val) := Lib.hid (((Tp.refl _ _).ext x0).ext y)
    refine hKK _ _ (.inr ⟨⟨y.val, HTY.out⟩, rfl⟩) ?_
    clear hKK KK
    refine LM.lin_free rfl ?_
    intro KK hKK
    go_wp2_with (at_builtin; refine appendN_O rfl _ _ rfl base (.slice va vn vc) RO rfl (HOX.out.later (y.on x0.below (by omega))) (x0.val.heap.size + 1) v KO rfl HV.out (by omega) (by omega) ?_; intro v3 w3 hown3 hg3 hat3; have HO3 := Lib.hid hown3; have HG3 := Lib.hid hg3; have HA3 := Lib.hid hat3; clear hown3 hg3 hat3)
    have HT3 : Hid (Tp (blkOf (.slice va vn vc) (w.heap.size + 2)) X w3) := Lib.hid (tp_grow2 HTY.out HG3.out fun k hk => .inl (blk_is hk))
    refine hKK _ _ (.inr ⟨⟨w3, HT3.out⟩, rfl⟩) ?_
    clear hKK KK
    repeat (refine LM.lin_calm rfl ?_; intro KK hKK; go_big_quiet_step (fail); refine wpQuiet_nil ?_; refine hKK _ ?_; clear hKK KK)
    refine LM.lin_nil ?_
    have HF3 : Hid (v3.ownBlock = (Value.slice va vn vc).ownBlock ∨ ∀ g, v3.ownBlock = some g → X.heap.size ≤ g) := Lib.hid (own_step (.inl rfl) HA3.out (by omega))
    have h3s := HT3.out.size
    have HD3 : Hid (w3.heap[w.heap.size]? = some (.cells #[.slice la dsn lc, .slice (some ⟨xb, xoff, none⟩) dsn dsc] 70)) := Lib.hid ((HT3.out.block _ (by omega) o0).trans HL0.out)
    have HX3 := Lib.hid (HX1.out w3 HT3.out)
    have HW3 := Lib.hid (HXW.out w3 HT3.out)
    obtain ⟨c0, _, _, dc0, dc1⟩ := two_z HD3.out
    clear b0 n0 n1 n2 n3 n4 n5 n6 n7 n8
    obtain ⟨b0, _, _, _, _, _, _, _, _, _, n0, n1, n2, n3, n4, n5, n6, n7, n8⟩ := nine_z HX3.out
    go_wp2_with (first | (go_at_call 51; ((with_reducible refine (CF2.out _ HW3.out).mono ?_); rintro e w1 ⟨v4, rfl, hov, z, rfl⟩; have HV4 := Lib.hid hov; clear hov; have zs := z.size; obtain ⟨l1, l2, l3, l4, l5⟩ := z.lts b0)) | (at_builtin; refine appendN_O rfl _ _ rfl base v3 (RO ++ KO) rfl (HO3.out.later z.below) (w3.heap.size + 1) v4 FO rfl HV4.out (by rw [List.length_append]; omega) (by omega) ?_; intro v5 w5 hown5 hg5 hat5; have HO5 := Lib.hid hown5; have HG5 := Lib.hid hg5; have HA5 := Lib.hid hat5; clear hown5 hg5 hat5; have HT5 := Lib.hid (tp_grow2 (HT3.out.ext z) HG5.out (fun k hk => own_tpk HF3.out k hk)); have HF5 := Lib.hid (own_step HF3.out HA5.out (by omega)); have h5s := HT5.out.size; have HX5 := Lib.hid (HX1.out w5 HT5.out); clear b0 n0 n1 n2 n3 n4 n5 n6 n7 n8 l1 l2 l3 l4 l5; obtain ⟨b0, _, _, _, _, _, _, _, _, _, n0, n1, n2, n3, n4, n5, n6, n7, n8⟩ := nine_z HX5.out) | (go_at_call 52; ((with_reducible refine (CC.out _ (tp_low (HXW.out w5 HT5.out) hbw hTlo)).mono ?_); rintro e w1 ⟨v6, rfl, hov, zz, rfl⟩; have HV6 := Lib.hid hov; clear hov; have zzs := zz.size)) | (at_builtin; refine appendN_O rfl _ _ rfl base v5 (RO ++ KO ++ FO) rfl (HO5.out.later zz.below) (w5.heap.size + 1) v6 CO rfl HV6.out (by rw [List.length_append, List.length_append]; omega) (by omega) ?_; intro v7 w7 hown7 hg7 hat7; have HO7 := Lib.hid hown7; have HG7 := Lib.hid hg7; have HA7 := Lib.hid hat7; clear hown7 hg7 hat7))
    go_ret
    refine ⟨v7, rfl, by rw [HE.out]; exact HO7.out, HXW.out w7 (tp_grow2 (HT5.out.ext zz) HG7.out fun k hk => own_tpk HF5.out k hk), ?_⟩
    rcases own_step HF5.out HA7.out (by omega) with h1 | h1
    · exact .inl h1
    · exact .inr fun g hg => by have := h1 g hg; omega
end Go.Proofs.YtdmhmlnfoocnjaaGreatDoor
