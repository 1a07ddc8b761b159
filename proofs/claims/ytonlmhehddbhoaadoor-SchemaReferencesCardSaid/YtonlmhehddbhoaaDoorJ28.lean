/-
  The first error of what the foreign keys of a schema name: the program's targetError.
-/
import Derived.Test.YtonlmhehddbhoaaDoorJ26
import Derived.Test.YtonlmhehddbhoaaDoorJ08
import Derived.Test.YtonlmhehddbhoaaDoorJ27
set_option linter.unusedVariables false
namespace Go.Proofs.YtonlmhehddbhoaaDoor
open Go Go.RowKit Go.Deep
theorem keyE_ok {t : Tb} (h : keyE t = 0) : keyB t.cs.len t.prim t.ps.len = true ∧ (∀ i, i < t.us.len → keyB t.cs.len (t.uqn i) (t.uq i).len = true) ∧ ∀ i, i < t.fs.len → keyB t.cs.len (t.fkn i) (t.fk i).len = true := by
  unfold keyE at h
  split at h
  · rename_i h1
    split at h
    · cases h
    · split at h
      · cases h
      · split at h
        · cases h
        · rename_i h2 h3 h4
          have h5 := (idx_none (p := uqP t) t.us.len 0).1 (by omega)
          have h6 := (idx_none (p := fkP t) t.fs.len 0).1 (by omega)
          refine ⟨h1, fun i hi => ?_, fun i hi => ?_⟩
          · have := h5 i (Nat.zero_le _) (by omega)
            unfold uqP at this
            simpa using this
          · have := h6 i (Nat.zero_le _) (by omega)
            unfold fkP at this
            simpa using this
  · cases h
/-- What is wrong with the k-th foreign key of table i. -/
def tgtE1 (sl : Sl) (tb : Nat → Tb) (i k : Nat) : Int :=
  if tgtB sl tb (i : Nat) (k : Nat) = true then (if fksB (tb i) (tb (tgN sl tb i k)) ((tb i).fkn k) (tb (tgN sl tb i k)).prim ((tb i).fk k).len (tb (tgN sl tb i k)).ps.len = true then 0 else 6) else 11
theorem tgtE1_is (sl : Sl) (tb : Nat → Tb) (i k : Nat) : (tgtB sl tb (i : Nat) (k : Nat) = false → tgtE1 sl tb i k = 11) ∧ (tgtB sl tb (i : Nat) (k : Nat) = true → fksB (tb i) (tb (tgN sl tb i k)) ((tb i).fkn k) (tb (tgN sl tb i k)).prim ((tb i).fk k).len (tb (tgN sl tb i k)).ps.len = true → tgtE1 sl tb i k = 0) ∧
    (tgtB sl tb (i : Nat) (k : Nat) = true → fksB (tb i) (tb (tgN sl tb i k)) ((tb i).fkn k) (tb (tgN sl tb i k)).prim ((tb i).fk k).len (tb (tgN sl tb i k)).ps.len = false → tgtE1 sl tb i k = 6) := by
  unfold tgtE1
  refine ⟨fun h => ?_, fun h h' => ?_, fun h h' => ?_⟩
  · rw [if_neg (by rw [h]; exact Bool.false_ne_true)]
  · rw [if_pos h, if_pos h']
  · rw [if_pos h, if_neg (by rw [h']; exact Bool.false_ne_true)]
def tgtE0 (sl : Sl) (tb : Nat → Tb) (i : Nat) : Int := fstE (tgtE1 sl tb i) 0 (tb i).fs.len
def tgtE (sl : Sl) (tb : Nat → Tb) : Int := fstE (tgtE0 sl tb) 0 sl.len
theorem tgtE_all {sl : Sl} {tb : Nat → Tb} (h : tgtE sl tb = 0) : allT sl tb := by
  intro i hi k hk
  have h1 := fstE_of _ _ h i (Nat.zero_le _) (by omega)
  have h2 := fstE_of _ _ h1 k (Nat.zero_le _) (by omega)
  cases hb : tgtB sl tb (i : Nat) (k : Nat)
  · rw [(tgtE1_is sl tb i k).1 hb] at h2
    cases h2
  · rfl
set_option maxHeartbeats 8000000 in
set_option maxRecDepth 20000 in
theorem targetError_calls (sl : Sl) (tb : Nat → Tb) (w : World) (h : TabsAt w sl tb) (hk : ∀ i, i < sl.len → keyE (tb i) = 0) :
    Calls Tryd.prog 49 #[.agg #[.slice sl.a sl.len sl.cap]] w fun r w' => r = .returned (.int .i64 (tgtE sl tb)) ∧ Cls w w' := by
  have hle := h.1.1
  have hmax := h.1.2.1
  unfold maxLen at hmax
  have HTG : Hid (∀ (j k : Nat) (W : World), Below w.heap.size w W → Calls Tryd.prog 19 #[.agg #[.slice sl.a sl.len sl.cap], .int .i64 (j : Nat), .int .i64 (k : Nat)] W fun r w' => r = .returned (.tuple #[.int .i64 (tgN sl tb j k : Nat), .bool (tgtB sl tb (j : Nat) (k : Nat))]) ∧ Cls W w') := Lib.hid fun j k W hW => by
    have h1 := Target_calls sl tb (j : Nat) (k : Nat) W (h.later hW)
    rw [tgt_nat] at h1
    exact h1
  have HFT : Hid (∀ j k : Nat, j < sl.len → k < (tb j).fs.len → tgtB sl tb (j : Nat) (k : Nat) = true → ∀ W, Below w.heap.size w W → Calls Tryd.prog 85 #[.agg #[.string (tb j).name, .slice (tb j).cs.a (tb j).cs.len (tb j).cs.cap, .slice (tb j).ps.a (tb j).ps.len (tb j).ps.cap, .slice (tb j).us.a (tb j).us.len (tb j).us.cap, .slice (tb j).fs.a (tb j).fs.len (tb j).fs.cap, .slice (tb j).ks.a (tb j).ks.len (tb j).ks.cap], .slice ((tb j).fk k).a ((tb j).fk k).len ((tb j).fk k).cap, .agg #[.string (tb (tgN sl tb j k)).name, .slice (tb (tgN sl tb j k)).cs.a (tb (tgN sl tb j k)).cs.len (tb (tgN sl tb j k)).cs.cap, .slice (tb (tgN sl tb j k)).ps.a (tb (tgN sl tb j k)).ps.len (tb (tgN sl tb j k)).ps.cap, .slice (tb (tgN sl tb j k)).us.a (tb (tgN sl tb j k)).us.len (tb (tgN sl tb j k)).us.cap, .slice (tb (tgN sl tb j k)).fs.a (tb (tgN sl tb j k)).fs.len (tb (tgN sl tb j k)).fs.cap, .slice (tb (tgN sl tb j k)).ks.a (tb (tgN sl tb j k)).ks.len (tb (tgN sl tb j k)).ks.cap]] W fun r w' => r = .returned (.bool (fksB (tb j) (tb (tgN sl tb j k)) ((tb j).fkn k) (tb (tgN sl tb j k)).prim ((tb j).fk k).len (tb (tgN sl tb j k)).ps.len)) ∧ Cls W w') := Lib.hid fun j k hj hkk hb W hW =>
    fits_calls (tb j) (tb (tgN sl tb j k)) ((tb j).fk k) ((tb j).fkn k) W ((h.2 j hj).later hW) ((h.2 _ (tg_lt hb)).later hW) (((h.2 j hj).fkn k hkk).1.later hW) (keyB_in ((keyE_ok (hk j hj)).2.2 k hkk)) (keyB_in (keyE_ok (hk _ (tg_lt hb))).1)
  have HRW : Hid (∀ j, j < sl.len → ∃ b off, sl.a = some ⟨b, off, none⟩ ∧ b < w.heap.size ∧ ∀ i, i < 6 → w.cell? ⟨b, off + j * 6 + i, none⟩ = ((tb j).cells)[i]?) := Lib.hid h.1.2.2.2
  have HFK : Hid (∀ j, j < sl.len → (tb j).fs.len ≤ (tb j).fs.cap ∧ (tb j).fs.cap ≤ 2 ^ 63 - 1 ∧ ∀ k, k < (tb j).fs.len → ∃ b off, (tb j).fs.a = some ⟨b, off, none⟩ ∧ b < w.heap.size ∧ ∀ i, i < 2 → w.cell? ⟨b, off + k * 2 + i, none⟩ = ([((tb j).fk k).v, .string ((tb j).fkt k)] : List Value)[i]?) := Lib.hid fun j hj => ⟨(h.2 j hj).fks.1, (h.2 j hj).fks.2.1, (h.2 j hj).fks.2.2.2⟩
  have HLT : Hid (∀ j k : Nat, tgtB sl tb (j : Nat) (k : Nat) = true → tgN sl tb j k < sl.len) := Lib.hid fun j k => tg_lt
  have HIS := Lib.hid (tgtE1_is sl tb)
  have HX : Hid (tgtE sl tb = fstE (tgtE0 sl tb) 0 sl.len) := Lib.hid rfl
  have H0 : Hid (∀ j, tgtE0 sl tb j = fstE (tgtE1 sl tb j) 0 (tb j).fs.len) := Lib.hid fun j => rfl
  clear h hk
  generalize tgtE sl tb = ee at HX ⊢
  generalize tgtE0 sl tb = e0 at HX H0
  generalize tgtE1 sl tb = e1 at H0 HIS
  generalize tgtB sl tb = tB at HTG HFT HLT HIS
  generalize tgN sl tb = tN at HTG HFT HLT HIS
  obtain ⟨sa, sn, sc⟩ := sl
  simp only at hle hmax HTG HFT HRW HFK HLT HX ⊢
  go_enter Tryd.func49, Tryd.ntmps49
  go_wp2_with fail
  have hbl : (w.alloc (.cells #[.slice sa sn sc] 45)).heap[w.heap.size]? = some (.cells #[.slice sa sn sc] 45) := heap_alloc_new w _
  have HBL := Lib.hid hbl
  have HB0 : Hid (Below w.heap.size w (w.alloc (.cells #[.slice sa sn sc] 45))) := Lib.hid (by repeat first | with_reducible exact Below.refl _ _ | with_reducible refine Below.setCell ?_ (by first | omega | (simp; done) | (simp; omega)) _ | with_reducible refine Below.alloc ?_ (by first | omega | (simp; done) | (simp; omega)) _ | with_reducible refine Below.drew ?_ | with_reducible refine Ext.on _ ?_ (by first | omega | (simp; done) | (simp; omega)))
  have h0s : (w.alloc (.cells #[.slice sa sn sc] 45)).heap.size = w.heap.size + 1 := by simp
  clear hbl
  generalize (w.alloc (.cells #[.slice sa sn sc] 45)) = W0 at *
  go_loopw [12] (fun i wr => ∃ j : Nat, j ≤ sn ∧ i = .int .i64 j ∧ fstE e0 0 sn = fstE e0 j (sn - j) ∧ Cls W0 wr) (fun i _ => sn - (intOf i).toNat)
  case atStart => exact ⟨0, Nat.zero_le _, rfl, rfl, Cls.of (Below.refl _ _)⟩
  case round =>
    obtain ⟨j, hj, rfl, he, x, rfl⟩ := hrel
    have HE := Lib.hid he
    clear he
    have xs := x.size
    have HBX : Hid (Below w.heap.size w x.val) := Lib.hid (HB0.out.trans (x.below.mono (by omega)))
    have HX0 := Lib.hid x.below
    have hbx0 : w.heap.size < x.val.heap.size := by omega
    have HSX := Lib.hid ((x.below.block _ (by omega)).trans HBL.out)
    generalize x.val = X at *
    obtain ⟨b0, _, k1⟩ := one_z HSX.out
    by_cases hltj : j < sn
    · obtain ⟨b, off, ha, hb2, hc⟩ := HRW.out j hltj
      subst ha
      have q0 := hc 0 (by omega)
      have q1 := hc 1 (by omega)
      have q2 := hc 2 (by omega)
      have q3 := hc 3 (by omega)
      have q4 := hc 4 (by omega)
      have q5 := hc 5 (by omega)
      simp only [Tb.cells, Sl.v, List.getElem?_cons_zero, List.getElem?_cons_succ, Nat.add_zero] at q0 q1 q2 q3 q4 q5
      rw [← HBX.out.cell (p := ⟨b, _, none⟩) hb2] at q0 q1 q2 q3 q4 q5
      have hb3 : b < X.heap.size := by omega
      have hS : Hid (sn - j = (sn - (j + 1)) + 1) := Lib.hid (by omega)
      have HT0 := Lib.hid (H0.out j)
      obtain ⟨hfl, hfm, hfk⟩ := HFK.out j hltj
      have HFKJ := Lib.hid hfk
      have HFTJ := Lib.hid (fun k => HFT.out j k hltj)
      have HTGJ := Lib.hid (HTG.out j)
      have HISJ := Lib.hid (HIS.out j)
      have HLTJ := Lib.hid (HLT.out j)
      clear hc hfk
      go_wp2_with fail
      have HB1 : Hid ((X.alloc (.cells #[.string (tb j).name, .slice (tb j).cs.a (tb j).cs.len (tb j).cs.cap, .slice (tb j).ps.a (tb j).ps.len (tb j).ps.cap, .slice (tb j).us.a (tb j).us.len (tb j).us.cap, .slice (tb j).fs.a (tb j).fs.len (tb j).fs.cap, .slice (tb j).ks.a (tb j).ks.len (tb j).ks.cap] 53)).heap[X.heap.size]? = some (.cells #[.string (tb j).name, .slice (tb j).cs.a (tb j).cs.len (tb j).cs.cap, .slice (tb j).ps.a (tb j).ps.len (tb j).ps.cap, .slice (tb j).us.a (tb j).us.len (tb j).us.cap, .slice (tb j).fs.a (tb j).fs.len (tb j).fs.cap, .slice (tb j).ks.a (tb j).ks.len (tb j).ks.cap] 53)) := Lib.hid (heap_alloc_new X _)
      have HS1 : Hid ((X.alloc (.cells #[.string (tb j).name, .slice (tb j).cs.a (tb j).cs.len (tb j).cs.cap, .slice (tb j).ps.a (tb j).ps.len (tb j).ps.cap, .slice (tb j).us.a (tb j).us.len (tb j).us.cap, .slice (tb j).fs.a (tb j).fs.len (tb j).fs.cap, .slice (tb j).ks.a (tb j).ks.len (tb j).ks.cap] 53)).heap[w.heap.size]? = some (.cells #[.slice (some ⟨b, off, none⟩) sn sc] 45)) := Lib.hid ((Below.heap_alloc X _ w.heap.size hbx0).trans HSX.out)
      have HBW : Hid (Below w.heap.size w (X.alloc (.cells #[.string (tb j).name, .slice (tb j).cs.a (tb j).cs.len (tb j).cs.cap, .slice (tb j).ps.a (tb j).ps.len (tb j).ps.cap, .slice (tb j).us.a (tb j).us.len (tb j).us.cap, .slice (tb j).fs.a (tb j).fs.len (tb j).fs.cap, .slice (tb j).ks.a (tb j).ks.len (tb j).ks.cap] 53))) := Lib.hid (HBX.out.trans (((Below.refl _ _).alloc (Nat.le_refl _) _).mono HBX.out.size))
      have HW0 : Hid (Below W0.heap.size W0 (X.alloc (.cells #[.string (tb j).name, .slice (tb j).cs.a (tb j).cs.len (tb j).cs.cap, .slice (tb j).ps.a (tb j).ps.len (tb j).ps.cap, .slice (tb j).us.a (tb j).us.len (tb j).us.cap, .slice (tb j).fs.a (tb j).fs.len (tb j).fs.cap, .slice (tb j).ks.a (tb j).ks.len (tb j).ks.cap] 53))) := Lib.hid (HX0.out.trans (((Below.refl _ _).alloc (Nat.le_refl _) _).mono HX0.out.size))
      have hs1 : (X.alloc (.cells #[.string (tb j).name, .slice (tb j).cs.a (tb j).cs.len (tb j).cs.cap, .slice (tb j).ps.a (tb j).ps.len (tb j).ps.cap, .slice (tb j).us.a (tb j).us.len (tb j).us.cap, .slice (tb j).fs.a (tb j).fs.len (tb j).fs.cap, .slice (tb j).ks.a (tb j).ks.len (tb j).ks.cap] 53)).heap.size = X.heap.size + 1 := by simp
      clear q0 q1 q2 q3 q4 q5 k1 HSX HX0 HBX
      generalize (X.alloc (.cells #[.string (tb j).name, .slice (tb j).cs.a (tb j).cs.len (tb j).cs.cap, .slice (tb j).ps.a (tb j).ps.len (tb j).ps.cap, .slice (tb j).us.a (tb j).us.len (tb j).us.cap, .slice (tb j).fs.a (tb j).fs.len (tb j).fs.cap, .slice (tb j).ks.a (tb j).ks.len (tb j).ks.cap] 53)) = W1 at *
      generalize X.heap.size = bt at *
      have n0 : w.heap.size < W1.heap.size := by omega
      have n1 : bt < W1.heap.size := by omega
      have n2 : b < W1.heap.size := by omega
      have HS1Z := Lib.hid hs1
      have H0SZ := Lib.hid h0s
      clear hs1 h0s
      obtain ⟨_, _, k1⟩ := one_z HS1.out
      obtain ⟨_, _, _, _, _, _, _, m0, m1, m2, m3, m4, m5⟩ := six_z HB1.out
      generalize hfs : (tb j).fs = fs at *
      obtain ⟨fa, fn, fc⟩ := fs
      simp only at hfl hfm HT0 HFKJ HFTJ m4 ⊢
      clear hfs
      go_loopw [20] (fun i wr => ∃ k : Nat, k ≤ fn ∧ i = .int .i64 k ∧ fstE (e1 j) 0 fn = fstE (e1 j) k (fn - k) ∧ Cls W1 wr) (fun i _ => fn - (intOf i).toNat)
      case atStart => exact ⟨0, Nat.zero_le _, rfl, rfl, Cls.of (Below.refl _ _)⟩
      case round =>
        obtain ⟨k, hk, rfl, hf, x1, rfl⟩ := hrel
        have HF1 := Lib.hid hf
        clear hf
        have x1s := x1.size
        obtain ⟨g1, g2, g3, g4, g5⟩ := x1.lts n0
        obtain ⟨g6, g7, g8, g9, g10⟩ := x1.lts n1
        obtain ⟨g11, g12, g13, g14, g15⟩ := x1.lts n2
        have HBY : Hid (Below w.heap.size w x1.val) := Lib.hid (HBW.out.trans (x1.below.mono (by omega)))
        by_cases hltk : k < fn
        · obtain ⟨b', off', ha', hb2', hc'⟩ := HFKJ.out k hltk
          subst ha'
          have r0 := hc' 0 (by omega)
          have r1 := hc' 1 (by omega)
          simp only [List.getElem?_cons_zero, List.getElem?_cons_succ, Nat.add_zero, Sl.v] at r0 r1
          rw [← HBW.out.cell (p := ⟨b', _, none⟩) hb2'] at r0 r1
          have n3 : b' < W1.heap.size := by omega
          obtain ⟨g16, g17, g18, g19, g20⟩ := x1.lts n3
          have hS1 : Hid (fn - k = (fn - (k + 1)) + 1) := Lib.hid (by omega)
          have C1 := Lib.hid (HTGJ.out k)
          have hP := Lib.hid (HISJ.out k)
          have C2 := Lib.hid (fun hb => HFTJ.out k hltk hb)
          have hL := Lib.hid (HLTJ.out k)
          clear hc'
          have HC : Hid (∀ y : Ext (x1.val.alloc (.cells #[.slice ((tb j).fk k).a ((tb j).fk k).len ((tb j).fk k).cap, .string ((tb j).fkt k)] 57)), Below w.heap.size w y.val ∧ Below W1.heap.size W1 y.val) := Lib.hid fun y => ⟨y.on (HBY.out.trans (((Below.refl _ _).alloc (Nat.le_refl _) _).mono HBY.out.size)) (by simp; omega), y.on (x1.below.trans (((Below.refl _ _).alloc (Nat.le_refl _) _).mono x1s)) (by simp; omega)⟩
          generalize (tb j).fk k = u at r0 C2 hP HC
          obtain ⟨u1, u2, u3⟩ := u
          simp only at r0 C2 hP HC
          generalize (tb j).fkt k = ut at r1 HC
          cases hbb : tB (j : Nat) (k : Nat)
          · have hP3 := Lib.hid (hP.out.1 hbb)
            rw [hbb] at C1
            clear C2 hL hP hbb
            go_wp2_with (go_at_call 19; ((with_reducible refine (C1.out _ (HBY.out.trans (((Below.refl _ _).alloc (Nat.le_refl _) _).mono HBY.out.size))).mono ?_); rintro r _ ⟨rfl, y, rfl⟩))
            go_ret
            exact ⟨ret_int (by rw [HX.out, HE.out, hS.out, fstE_stop (by rw [HT0.out, HF1.out, hS1.out, fstE_stop (by rw [hP3.out]; decide), hP3.out]; decide), HT0.out, HF1.out, hS1.out, fstE_stop (by rw [hP3.out]; decide), hP3.out]), Cls.of (HC.out y).1⟩
          · have hg := hL.out hbb
            have C3 := Lib.hid (C2.out hbb)
            have hP3 := Lib.hid (And.intro (hP.out.2.1 hbb) (hP.out.2.2 hbb))
            obtain ⟨b2, off2, ha2, hb22, hc2⟩ := HRW.out (tN j k) hg
            simp only [Option.some.injEq, Addr.mk.injEq, and_true] at ha2
            obtain ⟨rfl, rfl⟩ := ha2
            have q0 := hc2 0 (by omega)
            have q1 := hc2 1 (by omega)
            have q2 := hc2 2 (by omega)
            have q3 := hc2 3 (by omega)
            have q4 := hc2 4 (by omega)
            have q5 := hc2 5 (by omega)
            simp only [Tb.cells, Sl.v, List.getElem?_cons_zero, List.getElem?_cons_succ, Nat.add_zero] at q0 q1 q2 q3 q4 q5
            rw [← HBW.out.cell (p := ⟨b, _, none⟩) hb2] at q0 q1 q2 q3 q4 q5
            rw [hbb] at C1
            clear C2 hL hP hbb hc2
            generalize fksB (tb j) (tb (tN j k)) ((tb j).fkn k) (tb (tN j k)).prim u2 (tb (tN j k)).ps.len = fb at C3 hP3
            generalize tb (tN j k) = o at C3 q0 q1 q2 q3 q4 q5
            generalize tN j k = g at C1 hg q0 q1 q2 q3 q4 q5
            cases fb
            all_goals
              go_wp2_with (go_at_call 19; ((with_reducible refine (C1.out _ (HBY.out.trans (((Below.refl _ _).alloc (Nat.le_refl _) _).mono HBY.out.size))).mono ?_); rintro r _ ⟨rfl, y, rfl⟩))
              refine wp_region_on (by kernel_rfl) (by kernel_rfl) ?_
              repeat (go_big_quiet_step ((go_at_call 85; exact Cls.call (C3.out _ (HC.out _).1))))
              refine wpQuiet_nil ?_
              rintro _ ⟨z, rfl⟩
              go_wp2_with fail
            · have hP4 := Lib.hid (hP3.out.2 (by trivial))
              go_ret
              exact ⟨ret_int (by rw [HX.out, HE.out, hS.out, fstE_stop (by rw [HT0.out, HF1.out, hS1.out, fstE_stop (by rw [hP4.out]; decide), hP4.out]; decide), HT0.out, HF1.out, hS1.out, fstE_stop (by rw [hP4.out]; decide), hP4.out]), Cls.of (HC.out z).1⟩
            · have hP4 := Lib.hid (hP3.out.1 (by trivial))
              go_roundw
              case rel => exact ⟨k + 1, by omega, by go_num, by rw [HF1.out, hS1.out, fstE_go hP4.out], Cls.of (HC.out z).2⟩
              case measure => simp [intOf]; omega
        · have hz : Hid (fn - k = 0) := Lib.hid (by omega)
          have hP4 : Hid (e0 j = 0) := Lib.hid (by rw [HT0.out, HF1.out, hz.out]; rfl)
          go_wp2_with fail
          go_roundw
          case rel => exact ⟨j + 1, by omega, by go_num, by rw [HE.out, hS.out, fstE_go hP4.out], Cls.of (HW0.out.trans (x1.below.mono HW0.out.size))⟩
          case measure => simp [intOf]; omega
    · have hz : Hid (sn - j = 0) := Lib.hid (by omega)
      go_wp2_with fail
      go_ret
      exact ⟨ret_int (by rw [HX.out, HE.out, hz.out]; rfl), Cls.of HBX.out⟩
end Go.Proofs.YtonlmhehddbhoaaDoor
