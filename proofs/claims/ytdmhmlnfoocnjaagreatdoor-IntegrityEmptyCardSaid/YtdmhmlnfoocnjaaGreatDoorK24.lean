/-
  The first error of what the foreign keys of a schema name.
-/
import Derived.Test.YtdmhmlnfoocnjaaGreatDoorK23
import Derived.Test.YtdmhmlnfoocnjaaGreatDoorK14
import Derived.Maps.OwnOps
set_option linter.unusedVariables false
namespace Go.Proofs.YtdmhmlnfoocnjaaGreatDoor
open Go Go.RowKit Go.Deep
theorem keyE_ok {t : Tb} (h : keyE t = 0) : keyB t.cs.len t.prim t.ps.len = true ∧ (∀ i, i < t.us.len → keyB t.cs.len (t.uqn i) (t.uq i).len = true) ∧ ∀ i, i < t.fs.len → keyB t.cs.len (t.fkn i) (t.fk i).len = true := by
  unfold keyE at h
  split at h
  · rename_i h1
    split at h
    · cases h
    · split at h
      · cases h
      · split at h
        · cases h
        · rename_i h2 h3 h4
          have h5 := (idx_none (p := uqP t) t.us.len 0).1 (by omega)
          have h6 := (idx_none (p := fkP t) t.fs.len 0).1 (by omega)
          refine ⟨h1, fun i hi => ?_, fun i hi => ?_⟩
          · have := h5 i (Nat.zero_le _) (by omega)
            unfold uqP at this
            simpa using this
          · have := h6 i (Nat.zero_le _) (by omega)
            unfold fkP at this
            simpa using this
  · cases h
def tgtE1 (sl : Sl) (tb : Nat → Tb) (i k : Nat) : Int :=
  if tgtB sl tb (i : Nat) (k : Nat) = true then (if fksB (tb i) (tb (tgN sl tb i k)) ((tb i).fkn k) (tb (tgN sl tb i k)).prim ((tb i).fk k).len (tb (tgN sl tb i k)).ps.len = true then 0 else 6) else 11
theorem tgtE1_is (sl : Sl) (tb : Nat → Tb) (i k : Nat) : (tgtB sl tb (i : Nat) (k : Nat) = false → tgtE1 sl tb i k = 11) ∧ (tgtB sl tb (i : Nat) (k : Nat) = true → fksB (tb i) (tb (tgN sl tb i k)) ((tb i).fkn k) (tb (tgN sl tb i k)).prim ((tb i).fk k).len (tb (tgN sl tb i k)).ps.len = true → tgtE1 sl tb i k = 0) ∧
    (tgtB sl tb (i : Nat) (k : Nat) = true → fksB (tb i) (tb (tgN sl tb i k)) ((tb i).fkn k) (tb (tgN sl tb i k)).prim ((tb i).fk k).len (tb (tgN sl tb i k)).ps.len = false → tgtE1 sl tb i k = 6) := by
  unfold tgtE1
  refine ⟨fun h => ?_, fun h h' => ?_, fun h h' => ?_⟩
  · rw [if_neg (by rw [h]; exact Bool.false_ne_true)]
  · rw [if_pos h, if_pos h']
  · rw [if_pos h, if_neg (by rw [h']; exact Bool.false_ne_true)]
def tgtE0 (sl : Sl) (tb : Nat → Tb) (i : Nat) : Int := fstE (tgtE1 sl tb i) 0 (tb i).fs.len
def tgtE (sl : Sl) (tb : Nat → Tb) : Int := fstE (tgtE0 sl tb) 0 sl.len
theorem tgtE_all {sl : Sl} {tb : Nat → Tb} (h : tgtE sl tb = 0) : allT sl tb := by
  intro i hi k hk
  have h1 := fstE_of _ _ h i (Nat.zero_le _) (by omega)
  have h2 := fstE_of _ _ h1 k (Nat.zero_le _) (by omega)
  cases hb : tgtB sl tb (i : Nat) (k : Nat)
  · rw [(tgtE1_is sl tb i k).1 hb] at h2
    cases h2
  · rfl
set_option maxHeartbeats 8000000 in
set_option maxRecDepth 20000 in
theorem targetError_calls (sl : Sl) (tb : Nat → Tb) (w : World) (h : TabsAt w sl tb) (hk : ∀ i, i < sl.len → keyE (tb i) = 0) :
    Calls Tryz.prog 47 #[.agg #[.slice sl.a sl.len sl.cap]] w fun r w' => r = .returned (.int .i64 (tgtE sl tb)) ∧ Cls w w' := by
  have hle := h.1.1
  have hmax := h.1.2.1
  unfold maxLen at hmax
  have HTG : Hid (∀ (j k : Nat) (W : World), Below w.heap.size w W → Calls Tryz.prog 77 #[.agg #[.slice sl.a sl.len sl.cap], .int .i64 (j : Nat), .int .i64 (k : Nat)] W fun r w' => r = .returned (.tuple #[.int .i64 (tgN sl tb j k : Nat), .bool (tgtB sl tb (j : Nat) (k : Nat))]) ∧ Cls W w') := Lib.hid fun j k W hW => by
    have h1 := Target_calls sl tb (j : Nat) (k : Nat) W (h.later hW)
    rw [tgt_nat] at h1
    exact h1
  have HFT : Hid (∀ j k : Nat, j < sl.len → k < (tb j).fs.len → tgtB sl tb (j : Nat) (k : Nat) = true → ∀ W, Below w.heap.size w W → Calls Tryz.prog 78 #[.agg #[.string (tb j).name, .slice (tb j).cs.a (tb j).cs.len (tb j).cs.cap, .slice (tb j).ps.a (tb j).ps.len (tb j).ps.cap, .slice (tb j).us.a (tb j).us.len (tb j).us.cap, .slice (tb j).fs.a (tb j).fs.len (tb j).fs.cap, .slice (tb j).ks.a (tb j).ks.len (tb j).ks.cap], .slice ((tb j).fk k).a ((tb j).fk k).len ((tb j).fk k).cap, .agg #[.string (tb (tgN sl tb j k)).name, .slice (tb (tgN sl tb j k)).cs.a (tb (tgN sl tb j k)).cs.len (tb (tgN sl tb j k)).cs.cap, .slice (tb (tgN sl tb j k)).ps.a (tb (tgN sl tb j k)).ps.len (tb (tgN sl tb j k)).ps.cap, .slice (tb (tgN sl tb j k)).us.a (tb (tgN sl tb j k)).us.len (tb (tgN sl tb j k)).us.cap, .slice (tb (tgN sl tb j k)).fs.a (tb (tgN sl tb j k)).fs.len (tb (tgN sl tb j k)).fs.cap, .slice (tb (tgN sl tb j k)).ks.a (tb (tgN sl tb j k)).ks.len (tb (tgN sl tb j k)).ks.cap]] W fun r w' => r = .returned (.bool (fksB (tb j) (tb (tgN sl tb j k)) ((tb j).fkn k) (tb (tgN sl tb j k)).prim ((tb j).fk k).len (tb (tgN sl tb j k)).ps.len)) ∧ Cls W w') := Lib.hid fun j k hj hkk hb W hW =>
    fits_calls (tb j) (tb (tgN sl tb j k)) ((tb j).fk k) ((tb j).fkn k) W ((h.2 j hj).later hW) ((h.2 _ (tg_lt hb)).later hW) (((h.2 j hj).fkn k hkk).1.later hW) (keyB_in ((keyE_ok (hk j hj)).2.2 k hkk)) (keyB_in (keyE_ok (hk _ (tg_lt hb))).1)
  have HRW : Hid (∀ j, j < sl.len → ∃ b off, sl.a = some ⟨b, off, none⟩ ∧ b < w.heap.size ∧ ∀ i, i < 6 → w.cell? ⟨b, off + j * 6 + i, none⟩ = ((tb j).cells)[i]?) := Lib.hid h.1.2.2.2
  have HFK : Hid (∀ j, j < sl.len → (tb j).fs.len ≤ (tb j).fs.cap ∧ (tb j).fs.cap ≤ 2 ^ 63 - 1 ∧ ∀ k, k < (tb j).fs.len → ∃ b off, (tb j).fs.a = some ⟨b, off, none⟩ ∧ b < w.heap.size ∧ ∀ i, i < 2 → w.cell? ⟨b, off + k * 2 + i, none⟩ = ([((tb j).fk k).v, .string ((tb j).fkt k)] : List Value)[i]?) := Lib.hid fun j hj => ⟨(h.2 j hj).fks.1, (h.2 j hj).fks.2.1, (h.2 j hj).fks.2.2.2⟩
  have HLT : Hid (∀ j k : Nat, tgtB sl tb (j : Nat) (k : Nat) = true → tgN sl tb j k < sl.len) := Lib.hid fun j k => tg_lt
  have HIS := Lib.hid (tgtE1_is sl tb)
  have HX : Hid (tgtE sl tb = fstE (tgtE0 sl tb) 0 sl.len) := Lib.hid rfl
  have H0 : Hid (∀ j, tgtE0 sl tb j = fstE (tgtE1 sl tb j) 0 (tb j).fs.len) := Lib.hid fun j => rfl
  clear h hk
  generalize tgtE sl tb = ee at HX ⊢
  generalize tgtE0 sl tb = e0 at HX H0
  generalize tgtE1 sl tb = e1 at H0 HIS
  generalize tgtB sl tb = tB at HTG HFT HLT HIS
  generalize tgN sl tb = tN at HTG HFT HLT HIS
  obtain ⟨sa, sn, sc⟩ := sl
  simp only at hle hmax HTG HFT HRW HFK HLT HX ⊢
  go_enter Tryz.func47, Tryz.ntmps47
  go_wp2_with fail
  have hbl : (w.alloc (.cells #[.slice sa sn sc] 28)).heap[w.heap.size]? = some (.cells #[.slice sa sn sc] 28) := heap_alloc_new w _
  have HBL := Lib.hid hbl
  have HB0 : Hid (Below w.heap.size w (w.alloc (.cells #[.slice sa sn sc] 28))) := Lib.hid (by repeat first|with_reducible exact Below.refl _ _|with_reducible refine Below.setCell ?_ (by first|omega|(simp;done)|(simp;omega)) _|with_reducible refine Below.alloc ?_ (by first|omega|(simp;done)|(simp;omega)) _|with_reducible refine Below.drew ?_|with_reducible refine Ext.on _ ?_ (by first|omega|(simp;done)|(simp;omega)))
  have h0s : (w.alloc (.cells #[.slice sa sn sc] 28)).heap.size = w.heap.size + 1 := by simp
  clear hbl
  generalize (w.alloc (.cells #[.slice sa sn sc] 28)) = W0 at *
  go_loopw [12] (fun i wr => ∃ j : Nat, j ≤ sn ∧ i = .int .i64 j ∧ fstE e0 0 sn = fstE e0 j (sn - j) ∧ Cls W0 wr) (fun i _ => sn - (intOf i).toNat)
  case atStart => exact ⟨0, Nat.zero_le _, rfl, rfl, Cls.of (Below.refl _ _)⟩
  case round =>
    obtain ⟨j, hj, rfl, he, x, rfl⟩ := hrel
    have HE := Lib.hid he
    clear he
    have xs := x.size
    have HBX : Hid (Below w.heap.size w x.val) := Lib.hid (HB0.out.trans (x.below.mono (by omega)))
    have HX0 := Lib.hid x.below
    have hbx0 : w.heap.size < x.val.heap.size := by omega
    have HSX := Lib.hid ((x.below.block _ (by omega)).trans HBL.out)
    generalize x.val = X at *
    obtain ⟨b0, _, k1⟩ := one_z HSX.out
    by_cases hltj : j < sn
    · obtain ⟨b, off, ha, hb2, hc⟩ := HRW.out j hltj
      subst ha
      have q0 := hc 0 (by omega)
      have q1 := hc 1 (by omega)
      have q2 := hc 2 (by omega)
      have q3 := hc 3 (by omega)
      have q4 := hc 4 (by omega)
      have q5 := hc 5 (by omega)
      simp only [Tb.cells, Sl.v, List.getElem?_cons_zero, List.getElem?_cons_succ, Nat.add_zero] at q0 q1 q2 q3 q4 q5
      rw [← HBX.out.cell (p := ⟨b, _, none⟩) hb2] at q0 q1 q2 q3 q4 q5
      have hb3 : b < X.heap.size := by omega
      have hS : Hid (sn - j = (sn - (j + 1)) + 1) := Lib.hid (by omega)
      have HT0 := Lib.hid (H0.out j)
      obtain ⟨hfl, hfm, hfk⟩ := HFK.out j hltj
      have HFKJ := Lib.hid hfk
      have HFTJ := Lib.hid (fun k => HFT.out j k hltj)
      have HTGJ := Lib.hid (HTG.out j)
      have HISJ := Lib.hid (HIS.out j)
      have HLTJ := Lib.hid (HLT.out j)
      clear hc hfk
      go_wp2_with fail
      have HB1 : Hid ((X.alloc (.cells #[.string (tb j).name, .slice (tb j).cs.a (tb j).cs.len (tb j).cs.cap, .slice (tb j).ps.a (tb j).ps.len (tb j).ps.cap, .slice (tb j).us.a (tb j).us.len (tb j).us.cap, .slice (tb j).fs.a (tb j).fs.len (tb j).fs.cap, .slice (tb j).ks.a (tb j).ks.len (tb j).ks.cap] 55)).heap[X.heap.size]? = some (.cells #[.string (tb j).name, .slice (tb j).cs.a (tb j).cs.len (tb j).cs.cap, .slice (tb j).ps.a (tb j).ps.len (tb j).ps.cap, .slice (tb j).us.a (tb j).us.len (tb j).us.cap, .slice (tb j).fs.a (tb j).fs.len (tb j).fs.cap, .slice (tb j).ks.a (tb j).ks.len (tb j).ks.cap] 55)) := Lib.hid (heap_alloc_new X _)
      have HS1 : Hid ((X.alloc (.cells #[.string (tb j).name, .slice (tb j).cs.a (tb j).cs.len (tb j).cs.cap, .slice (tb j).ps.a (tb j).ps.len (tb j).ps.cap, .slice (tb j).us.a (tb j).us.len (tb j).us.cap, .slice (tb j).fs.a (tb j).fs.len (tb j).fs.cap, .slice (tb j).ks.a (tb j).ks.len (tb j).ks.cap] 55)).heap[w.heap.size]? = some (.cells #[.slice (some ⟨b, off, none⟩) sn sc] 28)) := Lib.hid ((Below.heap_alloc X _ w.heap.size hbx0).trans HSX.out)
      have HBW : Hid (Below w.heap.size w (X.alloc (.cells #[.string (tb j).name, .slice (tb j).cs.a (tb j).cs.len (tb j).cs.cap, .slice (tb j).ps.a (tb j).ps.len (tb j).ps.cap, .slice (tb j).us.a (tb j).us.len (tb j).us.cap, .slice (tb j).fs.a (tb j).fs.len (tb j).fs.cap, .slice (tb j).ks.a (tb j).ks.len (tb j).ks.cap] 55))) := Lib.hid (HBX.out.trans (((Below.refl _ _).alloc (Nat.le_refl _) _).mono HBX.out.size))
      have HW0 : Hid (Below W0.heap.size W0 (X.alloc (.cells #[.string (tb j).name, .slice (tb j).cs.a (tb j).cs.len (tb j).cs.cap, .slice (tb j).ps.a (tb j).ps.len (tb j).ps.cap, .slice (tb j).us.a (tb j).us.len (tb j).us.cap, .slice (tb j).fs.a (tb j).fs.len (tb j).fs.cap, .slice (tb j).ks.a (tb j).ks.len (tb j).ks.cap] 55))) := Lib.hid (HX0.out.trans (((Below.refl _ _).alloc (Nat.le_refl _) _).mono HX0.out.size))
      have hs1 : (X.alloc (.cells #[.string (tb j).name, .slice (tb j).cs.a (tb j).cs.len (tb j).cs.cap, .slice (tb j).ps.a (tb j).ps.len (tb j).ps.cap, .slice (tb j).us.a (tb j).us.len (tb j).us.cap, .slice (tb j).fs.a (tb j).fs.len (tb j).fs.cap, .slice (tb j).ks.a (tb j).ks.len (tb j).ks.cap] 55)).heap.size = X.heap.size + 1 := by simp
      clear q0 q1 q2 q3 q4 q5 k1 HSX HX0 HBX
      generalize (X.alloc (.cells #[.string (tb j).name, .slice (tb j).cs.a (tb j).cs.len (tb j).cs.cap, .slice (tb j).ps.a (tb j).ps.len (tb j).ps.cap, .slice (tb j).us.a (tb j).us.len (tb j).us.cap, .slice (tb j).fs.a (tb j).fs.len (tb j).fs.cap, .slice (tb j).ks.a (tb j).ks.len (tb j).ks.cap] 55)) = W1 at *
      generalize X.heap.size = bt at *
      have n0 : w.heap.size < W1.heap.size := by omega
      have n1 : bt < W1.heap.size := by omega
      have n2 : b < W1.heap.size := by omega
      have HS1Z := Lib.hid hs1
      have H0SZ := Lib.hid h0s
      clear hs1 h0s
      obtain ⟨_, _, k1⟩ := one_z HS1.out
      obtain ⟨_, _, _, _, _, _, _, m0, m1, m2, m3, m4, m5⟩ := six_z HB1.out
      generalize hfs : (tb j).fs = fs at *
      obtain ⟨fa, fn, fc⟩ := fs
      simp only at hfl hfm HT0 HFKJ HFTJ m4 ⊢
      clear hfs
      go_loopw [20] (fun i wr => ∃ k : Nat, k ≤ fn ∧ i = .int .i64 k ∧ fstE (e1 j) 0 fn = fstE (e1 j) k (fn - k) ∧ Cls W1 wr) (fun i _ => fn - (intOf i).toNat)
      case atStart => exact ⟨0, Nat.zero_le _, rfl, rfl, Cls.of (Below.refl _ _)⟩
      case round =>
        obtain ⟨k, hk, rfl, hf, x1, rfl⟩ := hrel
        have HF1 := Lib.hid hf
        clear hf
        have x1s := x1.size
        obtain ⟨g1, g2, g3, g4, g5⟩ := x1.lts n0
        obtain ⟨g6, g7, g8, g9, g10⟩ := x1.lts n1
        obtain ⟨g11, g12, g13, g14, g15⟩ := x1.lts n2
        have HBY : Hid (Below w.heap.size w x1.val) := Lib.hid (HBW.out.trans (x1.below.mono (by omega)))
        by_cases hltk : k < fn
        · obtain ⟨b', off', ha', hb2', hc'⟩ := HFKJ.out k hltk
          subst ha'
          have r0 := hc' 0 (by omega)
          have r1 := hc' 1 (by omega)
          simp only [List.getElem?_cons_zero, List.getElem?_cons_succ, Nat.add_zero, Sl.v] at r0 r1
          rw [← HBW.out.cell (p := ⟨b', _, none⟩) hb2'] at r0 r1
          have n3 : b' < W1.heap.size := by omega
          obtain ⟨g16, g17, g18, g19, g20⟩ := x1.lts n3
          have hS1 : Hid (fn - k = (fn - (k + 1)) + 1) := Lib.hid (by omega)
          have C1 := Lib.hid (HTGJ.out k)
          have hP := Lib.hid (HISJ.out k)
          have C2 := Lib.hid (fun hb => HFTJ.out k hltk hb)
          have hL := Lib.hid (HLTJ.out k)
          clear hc'
          have HC : Hid (∀ y : Ext (x1.val.alloc (.cells #[.slice ((tb j).fk k).a ((tb j).fk k).len ((tb j).fk k).cap, .string ((tb j).fkt k)] 59)), Below w.heap.size w y.val ∧ Below W1.heap.size W1 y.val) := Lib.hid fun y => ⟨y.on (HBY.out.trans (((Below.refl _ _).alloc (Nat.le_refl _) _).mono HBY.out.size)) (by simp; omega), y.on (x1.below.trans (((Below.refl _ _).alloc (Nat.le_refl _) _).mono x1s)) (by simp; omega)⟩
          generalize (tb j).fk k = u at r0 C2 hP HC
          obtain ⟨u1, u2, u3⟩ := u
          simp only at r0 C2 hP HC
          generalize (tb j).fkt k = ut at r1 HC
          cases hbb : tB (j : Nat) (k : Nat)
          · have hP3 := Lib.hid (hP.out.1 hbb)
            rw [hbb] at C1
            clear C2 hL hP hbb
            go_wp2_with (go_at_call 77; ((with_reducible refine (C1.out _ (HBY.out.trans (((Below.refl _ _).alloc (Nat.le_refl _) _).mono HBY.out.size))).mono ?_); rintro r _ ⟨rfl, y, rfl⟩))
            go_ret
            exact ⟨ret_int (by rw [HX.out, HE.out, hS.out, fstE_stop (by rw [HT0.out, HF1.out, hS1.out, fstE_stop (by rw [hP3.out]; decide), hP3.out]; decide), HT0.out, HF1.out, hS1.out, fstE_stop (by rw [hP3.out]; decide), hP3.out]), Cls.of (HC.out y).1⟩
          · have hg := hL.out hbb
            have C3 := Lib.hid (C2.out hbb)
            have hP3 := Lib.hid (And.intro (hP.out.2.1 hbb) (hP.out.2.2 hbb))
            obtain ⟨b2, off2, ha2, hb22, hc2⟩ := HRW.out (tN j k) hg
            simp only [Option.some.injEq, Addr.mk.injEq, and_true] at ha2
            obtain ⟨rfl, rfl⟩ := ha2
            have q0 := hc2 0 (by omega)
            have q1 := hc2 1 (by omega)
            have q2 := hc2 2 (by omega)
            have q3 := hc2 3 (by omega)
            have q4 := hc2 4 (by omega)
            have q5 := hc2 5 (by omega)
            simp only [Tb.cells, Sl.v, List.getElem?_cons_zero, List.getElem?_cons_succ, Nat.add_zero] at q0 q1 q2 q3 q4 q5
            rw [← HBW.out.cell (p := ⟨b, _, none⟩) hb2] at q0 q1 q2 q3 q4 q5
            rw [hbb] at C1
            clear C2 hL hP hbb hc2
            generalize fksB (tb j) (tb (tN j k)) ((tb j).fkn k) (tb (tN j k)).prim u2 (tb (tN j k)).ps.len = fb at C3 hP3
            generalize tb (tN j k) = o at C3 q0 q1 q2 q3 q4 q5
            generalize tN j k = g at C1 hg q0 q1 q2 q3 q4 q5
            cases fb
            all_goals
              go_wp2_with (go_at_call 77; ((with_reducible refine (C1.out _ (HBY.out.trans (((Below.refl _ _).alloc (Nat.le_refl _) _).mono HBY.out.size))).mono ?_); rintro r _ ⟨rfl, y, rfl⟩))
              refine wp_region_on (by kernel_rfl) (by kernel_rfl) ?_
              repeat (go_big_quiet_step ((go_at_call 78; exact Cls.call (C3.out _ (HC.out _).1))))
              refine wpQuiet_nil ?_
              rintro _ ⟨z, rfl⟩
              go_wp2_with fail
            · have hP4 := Lib.hid (hP3.out.2 (by trivial))
              go_ret
              exact ⟨ret_int (by rw [HX.out, HE.out, hS.out, fstE_stop (by rw [HT0.out, HF1.out, hS1.out, fstE_stop (by rw [hP4.out]; decide), hP4.out]; decide), HT0.out, HF1.out, hS1.out, fstE_stop (by rw [hP4.out]; decide), hP4.out]), Cls.of (HC.out z).1⟩
            · have hP4 := Lib.hid (hP3.out.1 (by trivial))
              go_roundw
              case rel => exact ⟨k + 1, by omega, by go_num, by rw [HF1.out, hS1.out, fstE_go hP4.out], Cls.of (HC.out z).2⟩
              case measure => simp [intOf]; omega
        · have hz : Hid (fn - k = 0) := Lib.hid (by omega)
          have hP4 : Hid (e0 j = 0) := Lib.hid (by rw [HT0.out, HF1.out, hz.out]; rfl)
          go_wp2_with fail
          go_roundw
          case rel => exact ⟨j + 1, by omega, by go_num, by rw [HE.out, hS.out, fstE_go hP4.out], Cls.of (HW0.out.trans (x1.below.mono HW0.out.size))⟩
          case measure => simp [intOf]; omega
    · have hz : Hid (sn - j = 0) := Lib.hid (by omega)
      go_wp2_with fail
      go_ret
      exact ⟨ret_int (by rw [HX.out, HE.out, hz.out]; rfl), Cls.of HBX.out⟩
end Go.Proofs.YtdmhmlnfoocnjaaGreatDoor
set_option linter.unusedVariables false
namespace Go.Proofs.YtdmhmlnfoocnjaaGreatDoor
open Go Go.RowKit Go.Deep
def RefsIs (sl : Sl) (tb : Nat → Tb) (w : World) (r : Ending) (w' : World) : Prop :=
  (¬ allT sl tb ∧ r = .returned (.tuple #[.map none, .bool false]) ∧ Cls w w') ∨
  (allT sl tb ∧ ∃ (B c : Nat) (s : Nat → Sl) (f : Nat → Option Value), r = .returned (.tuple #[.map (some B), .bool true]) ∧ w.heap.size ≤ B ∧ MapIs w' B c sl.len f ∧ RowsAt sl tb f s w' ∧ (∀ k, (f k).isSome = decide (k < sl.len)) ∧ Cls w w')
def RefA (sl : Sl) (tb : Nat → Tb) (B j : Nat) (W0 wr : World) : Prop :=
  ∃ (c : Nat) (s : Nat → Sl) (f : Nat → Option Value), c ≤ 20 * j ∧ MapIs wr B c j f ∧ RowsAt sl tb f s wr ∧ (∀ k, (f k).isSome = decide (k < j)) ∧ (∀ i, i < j → ∀ k, k < (tb i).fs.len → tgtB sl tb (i : Nat) (k : Nat) = true) ∧ Tp B W0 wr
def RefB (sl : Sl) (tb : Nat → Tb) (B c j k : Nat) (f : Nat → Option Value) (W1 wr : World) : Prop :=
  ∃ (c' : Nat) (v : Value), c' ≤ c + k ∧ Tp B W1 wr ∧ MapIs wr B c' (j + 1) (upd f j (some v)) ∧ wr.ownsRow W1.heap.size 3 1 v k (flatN (tgL sl tb j k)) ∧ (∀ i, i < k → tgtB sl tb (j : Nat) (i : Nat) = true)
theorem refA_of {sl : Sl} {tb : Nat → Tb} {B c c' j : Nat} {f : Nat → Option Value} {s : Nat → Sl} {W0 wr W1 wr2 : World} {v : Value} (hj : j < sl.len) (hn : sl.len ≤ 10) (hfl : (tb j).fs.len ≤ 8) (hc : c ≤ 20 * j) (hm : MapIs wr B c j f) (hr : RowsAt sl tb f s wr) (hs : ∀ k, (f k).isSome = decide (k < j))
    (ha : ∀ i, i < j → ∀ k, k < (tb i).fs.len → tgtB sl tb (i : Nat) (k : Nat) = true) (ht : Tp B W0 wr) (h1 : Tp B wr W1) (hc' : c' ≤ c + 1 + (tb j).fs.len) (h2 : Tp B W1 wr2) (hm2 : MapIs wr2 B c' (j + 1) (upd f j (some v))) (ho : wr2.ownsRow W1.heap.size 3 1 v (tb j).fs.len (flatN (tgL sl tb j (tb j).fs.len)))
    (hk : ∀ i, i < (tb j).fs.len → tgtB sl tb (j : Nat) (i : Nat) = true) : RefA sl tb B (j + 1) W0 wr2 := by
  obtain ⟨sv, hv, hsl, hsat⟩ := sl_ofN ho (tgL_len sl tb j _)
  refine ⟨c', fun k => if k = j then sv else s k, upd f j (some v), by omega, hm2, fun k hkl => ?_, fun k => ?_, fun i hi k hkf => ?_, (ht.trans h1).trans h2⟩
  · by_cases e : k = j
    · subst e
      right
      simp only [if_pos]
      exact ⟨by rw [upd_at, hv], hsl, hsat.congr_z fun i hi => by rw [tgL_at (by omega)]⟩
    · rw [upd_ne e]
      simp only [if_neg e]
      exact (hr k hkl).imp id fun ⟨a1, a2, a3⟩ => ⟨a1, a2, a3.turn hm (h1.trans h2)⟩
  · by_cases e : k = j
    · subst e
      rw [upd_at]
      simp
    · rw [upd_ne e, hs k]
      by_cases h3 : k < j
      · simp [h3, Nat.lt_succ_of_lt h3]
      · have h4 : ¬ k < j + 1 := by omega
        simp [h3, h4]
  · by_cases e : i = j
    · subst e
      exact hk k hkf
    · exact ha i (by omega) k hkf
set_option maxHeartbeats 8000000 in
set_option maxRecDepth 20000 in
theorem refs_calls (sl : Sl) (tb : Nat → Tb) (w : World) (h : TabsAt w sl tb) (hn : sl.len ≤ 10) (hf : ∀ i, i < sl.len → (tb i).fs.len ≤ 8) :
    Calls Tryz.prog 79 #[.agg #[.slice sl.a sl.len sl.cap]] w (RefsIs sl tb w) := by
  have hle := h.1.1
  have hmax := h.1.2.1
  unfold maxLen at hmax
  have H := Lib.hid h
  have HF := Lib.hid hf
  have hmm := @run_makeMap Tryz.prog
  have HB0 : Hid (Below w.heap.size w ((w.alloc (.cells #[.slice sl.a sl.len sl.cap] 28)).alloc (.map #[] 0))) := Lib.hid (by repeat first|with_reducible exact Below.refl _ _|with_reducible refine Below.setCell ?_ (by first|omega|(simp;done)|(simp;omega)) _|with_reducible refine Below.alloc ?_ (by first|omega|(simp;done)|(simp;omega)) _|with_reducible refine Below.drew ?_|with_reducible refine Ext.on _ ?_ (by first|omega|(simp;done)|(simp;omega)))
  have H1 : Hid (((w.alloc (.cells #[.slice sl.a sl.len sl.cap] 28)).alloc (.map #[] 0)).heap[w.heap.size]? = some (.cells #[.slice sl.a sl.len sl.cap] 28)) := Lib.hid ((Below.heap_alloc _ _ _ (by simp)).trans (heap_alloc_new w _))
  have hM0 := MapIs.made (w.alloc (.cells #[.slice sl.a sl.len sl.cap] 28))
  have hsz : (w.alloc (.cells #[.slice sl.a sl.len sl.cap] 28)).heap.size = w.heap.size + 1 := by simp
  rw [hsz] at hM0
  have HM0 := Lib.hid hM0
  clear h hf hM0 hsz
  generalize hsl : sl.len = sn at hle hmax hn H1 HB0 HM0
  generalize hsa0 : sl.a = sa at H1 HB0 HM0
  have HSA := Lib.hid hsa0
  clear hsa0
  go_enter Tryz.func79, Tryz.ntmps79
  go_wp2_with fail
  have hs0 : w.heap.size + 2 ≤ ((w.alloc (.cells #[.slice sa sn sl.cap] 28)).alloc (.map #[] 0)).heap.size := by simp
  generalize ((w.alloc (.cells #[.slice sa sn sl.cap] 28)).alloc (.map #[] 0)) = W0 at H1 HB0 HM0 hs0 ⊢
  go_loopw [14] (fun i wr => ∃ j : Nat, j ≤ sn ∧ i = .int .i64 (j : Nat) ∧ RefA sl tb (w.heap.size + 1) j W0 wr) (fun i _ => sn - (intOf i).toNat)
  case atStart => exact ⟨0, Nat.zero_le _, rfl, 0, fun _ => Sl.z, fun _ => none, Nat.le_refl _, HM0.out, fun j hj => .inl rfl, fun k => by simp, fun i hi => absurd hi (Nat.not_lt_zero _), Tp.refl _ _⟩
  case round =>
    obtain ⟨j, hj, rfl, c, s, f, hc, hm, hr, hs, ha, ht⟩ := hrel
    have HM := Lib.hid hm
    have HR := Lib.hid hr
    have HS := Lib.hid hs
    have HA := Lib.hid ha
    have HT := Lib.hid ht
    have hsz := ht.size
    have hBl := hm.lt
    have hbe : Below w.heap.size w wr := HB0.out.trans ((ht.toBelow (B := w.heap.size) (by omega) (by omega)))
    have HBE := Lib.hid hbe
    obtain ⟨b1, _, k1⟩ := one_z ((ht.block w.heap.size (by omega) (by omega)).trans H1.out)
    clear hm hr hs ha
    by_cases hltj : j < sn
    · obtain ⟨b, off, hsa, hb2, hcl⟩ := H.out.1.2.2.2 j (by omega)
      rw [HSA.out] at hsa
      subst hsa
      have hTb := Lib.hid (H.out.2 j (by omega))
      have hfl8 := HF.out j (by omega)
      have q0 := hcl 0 (by omega)
      have q1 := hcl 1 (by omega)
      have q2 := hcl 2 (by omega)
      have q3 := hcl 3 (by omega)
      have q4 := hcl 4 (by omega)
      have q5 := hcl 5 (by omega)
      rw [← hbe.cell (p := ⟨b, _, none⟩) hb2] at q0 q1 q2 q3 q4 q5
      have hb3 : b < wr.heap.size := by omega
      simp only [Tb.cells, Sl.v, List.getElem?_cons_zero, List.getElem?_cons_succ, Nat.add_zero] at q0 q1 q2 q3 q4 q5
      clear hcl ht hbe
      have HX : Hid ((wr.alloc (.cells #[.string (tb j).name, .slice (tb j).cs.a (tb j).cs.len (tb j).cs.cap, .slice (tb j).ps.a (tb j).ps.len (tb j).ps.cap, .slice (tb j).us.a (tb j).us.len (tb j).us.cap, .slice (tb j).fs.a (tb j).fs.len (tb j).fs.cap, .slice (tb j).ks.a (tb j).ks.len (tb j).ks.cap] 55)).heap[wr.heap.size]? = some (.cells #[.string (tb j).name, .slice (tb j).cs.a (tb j).cs.len (tb j).cs.cap, .slice (tb j).ps.a (tb j).ps.len (tb j).ps.cap, .slice (tb j).us.a (tb j).us.len (tb j).us.cap, .slice (tb j).fs.a (tb j).fs.len (tb j).fs.cap, .slice (tb j).ks.a (tb j).ks.len (tb j).ks.cap] 55)) := Lib.hid (heap_alloc_new wr _)
      have HM1 : Hid (MapIs (wr.alloc (.cells #[.string (tb j).name, .slice (tb j).cs.a (tb j).cs.len (tb j).cs.cap, .slice (tb j).ps.a (tb j).ps.len (tb j).ps.cap, .slice (tb j).us.a (tb j).us.len (tb j).us.cap, .slice (tb j).fs.a (tb j).fs.len (tb j).fs.cap, .slice (tb j).ks.a (tb j).ks.len (tb j).ks.cap] 55)) (w.heap.size + 1) c j f) := Lib.hid (HM.out.later ((Below.refl _ _).alloc (Nat.le_refl _) _))
      have HFN : Hid ((f j).isSome = false) := Lib.hid (by rw [HS.out j]; simp)
      go_wp2_with (at_mapUpdate; refine wpList_store_z _ rfl _ _ _ rfl (w.heap.size + 1) c j f rfl HM1.out (by unfold maxLen; omega) j (by omega) nilV rfl rfl .nil codeR_nil ?_; intro w1 hm1 hg1; rw [if_neg (by rw [HFN.out]; exact Bool.false_ne_true)] at hm1; have HM1 := Lib.hid hm1; have HG1 := Lib.hid hg1; have w1s := hg1.size; simp at w1s; have hx1 := (hg1.block wr.heap.size (by simp) (by simp; omega)).trans HX.out; obtain ⟨bx, _, _, _, _, _, _, c0, c1, c2, c3, c4, c5⟩ := six_z hx1; clear hm1 hg1)
      have HP1 : Hid (Tp (w.heap.size + 1) wr w1) := Lib.hid (Tp.turn ((Tp.refl _ _).alloc _) HG1.out)
      have HB1 : Hid (w1.heap[w.heap.size]? = some (.cells #[.slice (some ⟨b, off, none⟩) sn sl.cap] 28)) := Lib.hid ((HP1.out.block w.heap.size (by omega) (by omega)).trans ((HT.out.block w.heap.size (by omega) (by omega)).trans H1.out))
      have HBE1 : Hid (Below w.heap.size w w1) := Lib.hid (HBE.out.trans (HP1.out.toBelow (by omega) (by omega)))
      clear hx1 c0 c1 c2 c3 c4 c5 q0 q1 q2 q3 q4 q5 HX HG1 k1
      generalize hfln : (tb j).fs.len = fln at hfl8 ⊢
      go_loopw [24] (fun i wr2 => ∃ k : Nat, k ≤ fln ∧ i = .int .i64 (k : Nat) ∧ RefB sl tb (w.heap.size + 1) (c + 1) j k f w1 wr2) (fun i _ => fln - (intOf i).toNat)
      case atStart => exact ⟨0, Nat.zero_le _, rfl, c + 1, nilV, Nat.le_refl _, Tp.refl _ _, HM1.out, World.ownsRow_nil _ _ _ 1, fun i hi => absurd hi (Nat.not_lt_zero _)⟩
      case round =>
        obtain ⟨k, hk, rfl, c', v, hc', ht2, hm2, ho, hok⟩ := hrel
        have HM2 := Lib.hid hm2
        have HT2 := Lib.hid ht2
        have HO := Lib.hid ho
        have HOK := Lib.hid hok
        have hsz2 := ht2.size
        have HBE2 : Hid (Below w.heap.size w wr) := Lib.hid (HBE1.out.trans (ht2.toBelow (by omega) (by omega)))
        obtain ⟨bs1, _, k1⟩ := one_z ((ht2.block w.heap.size (by omega) (by omega)).trans HB1.out)
        clear hm2 ht2 ho hok
        by_cases hltk : k < fln
        · have C1 : Hid (∀ W, Below w.heap.size w W → Calls Tryz.prog 77 #[.agg #[.slice (some ⟨b, off, none⟩) sn sl.cap], .int .i64 (j : Nat), .int .i64 (k : Nat)] W fun r w' => r = .returned (.tuple #[.int .i64 (tgN sl tb j k : Nat), .bool (tgtB sl tb (j : Nat) (k : Nat))]) ∧ Cls W w') := Lib.hid (fun W hW => by
            have h1 := Target_calls sl tb (j : Nat) (k : Nat) W (H.out.later hW)
            rw [tgt_nat, HSA.out, hsl] at h1
            exact h1)
          obtain ⟨i0, hi, hz0, hz1, hz2⟩ := info_parts infoI_z
          cases hbb : tgtB sl tb (j : Nat) (k : Nat)
          all_goals
            have HBB := Lib.hid hbb
            rw [hbb] at C1
            clear hbb
          · go_wp2_with (go_at_call 77; ((with_reducible refine (C1.out _ HBE2.out).mono ?_); rintro r _ ⟨rfl, y, rfl⟩))
            go_ret2
            refine .inl ⟨fun hall => ?_, rfl, Cls.of (HBE2.out.trans (y.below.mono HBE2.out.size))⟩
            have := hall j (by omega) k (by omega)
            rw [HBB.out] at this
            cases this
          · have HG : Hid (flatN (tgL sl tb j (k + 1)) = flatN (tgL sl tb j k) ++ [.int .i64 (tgN sl tb j k : Nat)]) := Lib.hid (by rw [tgL_go, flatN_go])
            generalize tgN sl tb j k = tt at C1 HG
            go_wp2_with (first | (go_at_call 77; ((with_reducible refine (C1.out _ HBE2.out).mono ?_); rintro r _ ⟨rfl, y, rfl⟩; have ys := y.size; have hkl := (HM2.out.later y.below).look (j := j) (by omega); rw [upd_at] at hkl)) | (at_builtin; refine wpList_append_own_at _ rfl _ _ 22 rfl w1.heap.size 3 i0 (.int .i64 0) 1 8 Tryz.underlying22 hi hz0 hz1 hz2 rfl (by decide) _ k (flatN (tgL sl tb j k)) rfl (own_later_z (own_later_z HO.out y.below) ((Below.refl _ _).alloc (Nat.le_refl _) _)) ⟨y.val.heap.size, 0, none⟩ 1 1 [.int .i64 (tt : Nat)] rfl rfl (cells_new_z _ _ _ (by simp)) (int_one_z _) (by unfold maxLen; omega) (by omega) (by simp; omega) ?_; intro v3 w3 hown3 hg3 _ hat3; change World.grownBy _ _ v.ownBlock at hg3; obtain ⟨g3, cp3, rfl⟩ := own_slice_z hown3; have HO3 := Lib.hid hown3; have HG3 := Lib.hid hg3; have HM3 := Lib.hid (((HM2.out.later y.below).later ((Below.refl _ _).alloc (Nat.le_refl _) (.cells #[.int .i64 (tt : Nat)] 3))).grown hg3 (fun e => own_not_map HO.out HM2.out _ e.symm rfl)); clear hown3 hg3 hat3) | (at_mapUpdate; refine wpList_store_z _ rfl _ _ _ rfl (w.heap.size + 1) c' (j + 1) (upd f j (some v)) rfl HM3.out (by unfold maxLen; omega) j (by omega) (.slice (some ⟨g3, 0, none⟩) (k + 1) cp3) rfl rfl _ (codeR_some _ _ _) ?_; intro w4 hm4 hg4; have HM4 := Lib.hid hm4; have HG4 := Lib.hid hg4; clear hm4 hg4))
            refine ⟨⟨k + 1, by omega, by go_num, c' + 1, .slice (some ⟨g3, 0, none⟩) (k + 1) cp3, by omega, Tp.turn (((HT2.out.trans (Tp.ofBelow y.below)).alloc _).grown HG3.out (fun q hq => (HO.out.lt q hq).1)) HG4.out, HM4.out.congr (by rw [upd_at]; rfl) (fun i _ => by unfold upd; split <;> rfl), ?_, fun i hi => ?_⟩, by simp [intOf]; omega⟩
            · rw [HG.out]
              exact own_turn HO3.out HG4.out (own_not_map HO3.out HM3.out)
            · by_cases e : i = k
              · subst e; exact HBB.out
              · exact HOK.out i (by omega)
        · have hkk : k = fln := by omega
          subst hkk
          subst hfln
          go_wp2_with fail
          go_roundw
          case rel => exact ⟨j + 1, by omega, by go_num, refA_of (by omega) (by omega) hfl8 hc HM.out HR.out HS.out HA.out HT.out HP1.out hc' HT2.out HM2.out HO.out HOK.out⟩
          case measure => simp [intOf]; omega
    · have hjn : j = sn := by omega
      subst hjn
      go_wp2_with fail
      go_ret2
      refine .inr ⟨fun i hi k hk => HA.out i (by omega) k hk, w.heap.size + 1, c, s, f, rfl, by omega, by rw [hsl]; exact HM.out, HR.out, fun k => by rw [HS.out k, hsl], Cls.of HBE.out⟩
end Go.Proofs.YtdmhmlnfoocnjaaGreatDoor
