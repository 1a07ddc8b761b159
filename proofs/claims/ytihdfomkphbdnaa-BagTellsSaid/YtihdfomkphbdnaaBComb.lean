/-
  bag.combine: each row as often as a function of both counts says.
-/
import Derived.Test.YtihdfomkphbdnaaBOwn
import Derived.Shelf.Abstract
set_option linter.unusedVariables false
namespace Go.Proofs.Ytihdfomkphbdnaa
open Go Go.RowKit
/-- What is asked of the function that says how often. -/
def Says (w : World) (g : Nat) (lb : Array Value) (f : Nat → Nat → Nat) : Prop :=
  ∀ W, Below w.heap.size w W → ∀ m n : Nat, m ≤ 20000 → n ≤ 20000 → Calls Try.prog g (#[.int .i64 (m : Int), .int .i64 (n : Int)] ++ lb) W fun e w' => e = .returned (.int .i64 ((f m n : Nat) : Int)) ∧ Cls W w'
theorem Says.later {w w' : World} {g : Nat} {lb : Array Value} {f : Nat → Nat → Nat} (h : Says w g lb f) (hb : Below w.heap.size w w') : Says w' g lb f := fun W hW => h W (hb.trans (hW.mono hb.size))
set_option maxHeartbeats 8000000 in
theorem combine_calls (g : Nat) (lb : Array Value) (f : Nat → Nat → Nat) (hf : ∀ m n, f m n ≤ m + n) (eg : ∀ args w, (callFunc g args).run Try.prog w = .ok (.enter g args) w)
    (a : Option Addr) (n c : Nat) (l : List Rw) (a' : Option Addr) (n' c' : Nat) (l' : List Rw) (w : World) (HF : Says w g lb f) (h : Rws w a n l) (h' : Rws w a' n' l') (hn : n ≤ 10000) (hn' : n' ≤ 10000) :
    Calls Try.prog 35 #[.slice a n c, .slice a' n' c', .func (.func g) #[] lb] w fun e w' => ∃ v R, e = .returned v ∧ RowsOwn w' w.heap.size v R ∧ CombOf f (vss l) (vss l') (vss R) ∧ Below w.heap.size w w' := by
  obtain ⟨i0, hi, hz0, hz1, hz2⟩ := info_parts infoR
  have C1 := Lib.hid (tallies_calls a n c l a' n' c' l' w h h' hn hn')
  have hl := h.ln
  have hl' := h'.ln
  clear h h'
  have HF' := Lib.hid HF
  clear HF
  go_enter Try.func35, Try.ntmps35
  go_wp2_with (go_at_call 28; ((with_reducible refine C1.out.mono ?_); rintro e w1 ⟨v, T, w0, rfl, hx⟩; have H1 := Lib.hid hx; clear hx; obtain ⟨at', ct, ev, kt, mt, dt⟩ := H1.out.1.read; have HD := Lib.hid dt; subst ev; clear dt))
  obtain ⟨ho, hT, hTl, hb0, hb⟩ := H1.out
  have HC := Lib.hid (hT.comb f (by have := hf 0 0; omega))
  have HCL : Hid ((comb f (T.map Tr.tl)).length ≤ n + n') := Lib.hid (by have := HC.out.le hf; rw [vss_len, vss_len] at this; omega)
  have HMN : Hid (∀ i, i < T.length → (T.getD i default).m ≤ 10000 ∧ (T.getD i default).n ≤ 10000) := Lib.hid fun i hi => by
    have := hT.bound i hi
    rw [vss_len, vss_len] at this
    omega
  have HO := Lib.hid ho
  have hbt := hb.trans (hb0.mono hb.size)
  have HB := Lib.hid hbt
  have HB0 := Lib.hid hb0
  have sw := hbt.size
  have s0 := hb0.size
  unfold maxLen at mt
  clear H1 hT ho hb0 hb hbt C1
  have CF : Hid (Says w1 g lb f) := Lib.hid (HF'.out.later HB.out)
  go_loopw [7, 14] (fun s7 s14 wr => ∃ j R, j ≤ T.length ∧ s14 = .int .i64 ((j : Nat) : Int) ∧ Hid (RowsOwn wr w1.heap.size s7 R) ∧ Hid (vss R = comb f ((T.take j).map Tr.tl)) ∧ Hid (Below w1.heap.size w1 wr)) (fun _ s14 _ => T.length - (intOf s14).toNat)
  case atStart => exact ⟨0, [], Nat.zero_le _, rfl, Lib.hid (RowsOwn.start _ _), Lib.hid rfl, Lib.hid (Below.refl _ _)⟩
  case round =>
    obtain ⟨j, R, hj, rfl, hR, hE, hBr⟩ := hrel
    have sr := hBr.out.size
    by_cases h1 : j < T.length
    · obtain ⟨b, ea, hbb, hcell⟩ := HD.out.resolve_left (by omega)
      obtain ⟨q0, q1, q2⟩ := hcell j h1
      have r0 := (hBr.out.cell (p := ⟨b, j * 3, none⟩) hbb).trans q0
      have r1 := (hBr.out.cell (p := ⟨b, j * 3 + 1, none⟩) hbb).trans q1
      have r2 := (hBr.out.cell (p := ⟨b, j * 3 + 2, none⟩) hbb).trans q2
      have HOK := Lib.hid (HO.out.get j)
      have hsucc := Lib.hid (comb_succ f T h1)
      have hmn := HMN.out j h1
      have HLE : Hid ((comb f ((T.take (j + 1)).map Tr.tl)).length ≤ n + n') := Lib.hid (Nat.le_trans (comb_take_le f T (j + 1)) HCL.out)
      clear q0 q1 q2 hcell
      subst ea
      generalize T.getD j default = t at *
      obtain ⟨⟨ra, rl, rc, rv⟩, m, k⟩ := t
      simp only [Rw.enc] at r0 r1 r2 hmn
      have HLE2 : Hid ((comb f ((T.take j).map Tr.tl)).length + f m k ≤ n + n') := Lib.hid (by have e := HLE.out; rw [hsucc.out, List.length_append, List.length_replicate] at e; exact e)
      have hsucc2 : Hid (comb f ((T.take (j + 1)).map Tr.tl) = comb f ((T.take j).map Tr.tl) ++ List.replicate (f m k) rv) := Lib.hid hsucc.out
      have CG : Hid (∀ W, Below w1.heap.size w1 W → Calls Try.prog g (#[.int .i64 (m : Int), .int .i64 (k : Int)] ++ lb) W fun e w' => e = .returned (.int .i64 ((f m k : Nat) : Int)) ∧ Cls W w') := Lib.hid fun W hW => CF.out W hW m k (by omega) (by omega)
      have HOK2 : Hid (∀ W, Below w1.heap.size w1 W → (⟨ra, rl, rc, rv⟩ : Rw).Ok W) := Lib.hid fun W hW => HOK.out.later (HB0.out.trans (hW.mono s0))
      generalize f m k = cnt at *
      clear hsucc HLE HOK HMN HD CF
      go_wp2_with (go_at_fn g; ((with_reducible refine (CG.out _ (hBr.out.alloc sr _)).mono ?_); rintro e _ ⟨rfl, x, rfl⟩))
      have sx := x.size
      have hsz : (wr.alloc (.cells #[.slice ra rl rc, .int .i64 m, .int .i64 k] 37)).heap.size = wr.heap.size + 1 := by simp
      have hx0 : x.val.heap[wr.heap.size]? = some (.cells #[.slice ra rl rc, .int .i64 m, .int .i64 k] 37) := (x.block (by omega)).trans (heap_alloc_new wr _)
      have HX0 := Lib.hid hx0
      have HBx : Hid (Below w1.heap.size w1 x.val) := Lib.hid (x.on (hBr.out.alloc sr _) (by omega))
      have HRx : Hid (RowsOwn x.val w1.heap.size u7 R) := Lib.hid (hR.out.later (x.on ((Below.refl _ _).alloc (Nat.le_refl _) _) (by omega)))
      have HOf : Hid (∀ g, u7.ownBlock = some g → g ≠ wr.heap.size) := Lib.hid fun g hg e => by have := (hR.out.1.lt g hg).2; omega
      clear hR hx0 CG
      generalize x.val = wx at *
      clear hsz sx x sr hBr r0 r1 r2
      generalize wr.heap.size = tb at *
      go_loopw [7, 24] (fun s7 s24 W => ∃ i R', i ≤ cnt ∧ s24 = .int .i64 ((i : Nat) : Int) ∧ Hid (RowsOwn W w1.heap.size s7 R') ∧ Hid (vss R' = comb f ((T.take j).map Tr.tl) ++ List.replicate i rv) ∧ Hid (Below w1.heap.size w1 W) ∧ Hid (W.heap[tb]? = some (.cells #[.slice ra rl rc, .int .i64 m, .int .i64 k] 37)) ∧ Hid (∀ g, s7.ownBlock = some g → g ≠ tb)) (fun _ s24 _ => cnt - (intOf s24).toNat)
      case atStart => exact ⟨0, R, Nat.zero_le _, rfl, HRx, Lib.hid (by rw [hE.out]; simp), HBx, HX0, HOf⟩
      case round =>
        obtain ⟨i, R', hi', rfl, hR', hE', hB', hX', hO'⟩ := hrel
        by_cases h2 : i < cnt
        · have hx' := hX'.out
          have htb : tb < wr.heap.size := (Array.getElem?_eq_some_iff.1 hx').1
          have c0 : wr.cell? ⟨tb, 0, none⟩ = some (.slice ra rl rc) := by simp [World.cell?, hx']
          clear hx'
          have sB := hB'.out.size
          have hcb : cnt ≤ 20000 := by have := HLE2.out; omega
          have hlen : R'.length + 1 ≤ n + n' := by
            have e := congrArg List.length hE'.out
            rw [vss_len, List.length_append, List.length_replicate] at e
            have := HLE2.out
            omega
          have CC : Hid (Calls Try.prog 29 #[.slice ra rl rc] wr fun e w' => ∃ r' : Rw, e = .returned r'.enc ∧ r'.vs = rv ∧ r'.len = rl ∧ r'.Ok w' ∧ (∀ x, r'.a = some x → wr.heap.size ≤ x.block) ∧ Below wr.heap.size wr w') := Lib.hid (CloneRow_calls ⟨ra, rl, rc, rv⟩ wr (HOK2.out wr hB'.out))
          have tok1 : True := trivial
          go_wp2_with (first | (go_at_call 29; ((with_reducible refine CC.out.mono ?_); rintro e w3 ⟨⟨pa, pl, pc, pv⟩, he, hvs, hl3, hx3⟩; have he2 : e = .returned (.slice pa pl pc) := he; clear he; subst he2; have HVS := Lib.hid hvs; clear hvs hl3; have HX3 := Lib.hid hx3; have s3 := hx3.2.2.size; clear hx3)) | (at_builtin; have _t := tok1; refine wpList_append_own_at _ rfl _ _ 22 rfl w1.heap.size 24 i0 (.slice none 0 0) 1 24 Try.underlying22 hi hz0 hz1 hz2 rfl (by decide) _ _ _ rfl (own_later' hR'.out.1 (HX3.out.2.2.alloc s3 _)) ⟨w3.heap.size, 0, none⟩ 1 1 [.slice pa pl pc] rfl rfl (cells_new' _ _ _) (flatR_one [(⟨pa, pl, pc, pv⟩ : Rw)]) (by unfold maxLen; omega) (by omega) (by simp; omega) ?_; intro v1 w4 hown4 hg4 _ hat4; have HR4 : Hid (RowsOwn w4 w1.heap.size v1 (R' ++ [(⟨pa, pl, pc, pv⟩ : Rw)])) := Lib.hid (hR'.out.snoc (r' := ⟨pa, pl, pc, pv⟩) (HX3.out.2.2.alloc s3 _) (HX3.out.1.later ((Below.refl _ _).alloc (Nat.le_refl _) _)) HX3.out.2.1 hown4 hg4 hat4); have HB4 : Hid (Below w1.heap.size w1 w4) := Lib.hid (Below.grown ((hB'.out.trans (HX3.out.2.2.mono sB)).alloc (by omega) _) hg4 (by simp; omega) (fun k hk => (hR'.out.1.lt k hk).1)); have HX4 : Hid (w4.heap[tb]? = some (.cells #[.slice ra rl rc, .int .i64 m, .int .i64 k] 37)) := Lib.hid ((hg4.block tb (by simp; omega) (fun e => hO'.out tb e.symm rfl)).trans ((Below.heap_alloc _ _ _ (by omega)).trans ((HX3.out.2.2.block tb htb).trans hX'.out))); have HO4 : Hid (∀ g, v1.ownBlock = some g → g ≠ tb) := Lib.hid (fun g hg => hat4.elim (fun e => hO'.out g (e ▸ hg)) (fun e => by rw [e] at hg; have e2 := Option.some.inj hg; simp at e2; omega)); clear hown4 hg4 hat4 tok1 _t))
          go_roundw
          case rel => exact ⟨i + 1, R' ++ [(⟨pa, pl, pc, pv⟩ : Rw)], by omega, by go_num, HR4, Lib.hid (by rw [replicate_snoc, ← List.append_assoc, ← hE'.out, ← HVS.out]; simp [vss]), HB4, HX4, HO4⟩
          case measure => simp [intOf]; omega
        · obtain rfl : i = cnt := by omega
          go_wp2_with fail
          go_roundw
          case rel => exact ⟨j + 1, R', by omega, by go_num, hR', Lib.hid (hE'.out.trans hsucc2.out.symm), hB'⟩
          case measure => simp [intOf]; omega
    · obtain rfl : j = T.length := by omega
      rw [List.take_length] at hE
      go_wp2_with fail
      go_ret
      refine ⟨_, R, rfl, hR.out.mono sw, ?_, HB.out.trans (hBr.out.mono sw)⟩
      rw [hE.out]
      exact HC.out
end Go.Proofs.Ytihdfomkphbdnaa
