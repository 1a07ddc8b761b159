/-
  AlgebraDeep: what the law does, whatever number it is given.
-/
import Derived.Test.YtbnhmjecjeifdaaDoorDStore
import Derived.Test.YtbnhmjecjeifdaaDoorDScan
import Derived.Test.YtbnhmjecjeifdaaDoorDSchema
import Derived.Test.YtbnhmjecjeifdaaDoorQDepth
set_option linter.unusedVariables false
namespace Go.Proofs.YtbnhmjecjeifdaaDoor
open Go Go.RowKit Go.Deep
theorem chain_succ (bs : Nat → Nat) (n : Nat) : (chainQ bs (n + 1)).cells.toArray = #[.int .i64 9, .string ⟨#[]⟩, .int .i64 0, .bool false, .int .i64 0, .int .i64 0, .int .i64 0, .string ⟨#[]⟩, .int .i64 0, .slice none 0 0, .slice none 0 0, .slice none 0 0, .slice none 0 0, .slice none 0 0, .slice (some ⟨bs n, 0, none⟩) 1 1] := rfl
/-- The first table's cells. -/
theorem tab0 {sl : Sl} {tb : Nat → Tb} {w : World} (h : TabsAt w sl tb) (h0 : 0 < sl.len) : ∃ b off, sl.a = some ⟨b, off, none⟩ ∧ b < w.heap.size ∧ w.cell? ⟨b, off + 1, none⟩ = some (.slice (tb 0).cs.a (tb 0).cs.len (tb 0).cs.cap) := by
  obtain ⟨b, off, ha, hb, hc⟩ := h.1.2.2.2 0 h0
  refine ⟨b, off, ha, hb, ?_⟩
  have := hc 1 (by omega)
  rw [Nat.zero_mul, Nat.add_zero] at this
  exact this
set_option maxHeartbeats 8000000 in
set_option maxRecDepth 20000 in
theorem algebraDeep_walk (m : Nat) (hm : m < 256) (w : World) (hO : OpT w) : Calls Tryd.prog 8 #[.int .u8 (m : Nat)] w fun e w' => e = .returned (.bool true) ∧ Below w.heap.size w w' := by
  obtain ⟨k, hk⟩ : ∃ k : Nat, k = m % 30 := ⟨_, rfl⟩
  have hkl : k < 30 := by omega
  have hk0 : (m : Int) % 30 = (k : Nat) := by omega
  clear hk
  have HT : TapeZ w.heap.size 0 (w.alloc (.cells #[.slice none 0 0, .int .i64 0] 34)) := heap_alloc_new w _
  have HO := Lib.hid hO
  clear hO
  go_enter Tryd.func8, Tryd.ntmps8
  go_wp2_with (go_at_call 14; ((with_reducible refine (Schema_zero w.heap.size _ HT).mono ?_); rintro e1 w1 hq; obtain ⟨sl, tb, rfl, hsl, htab, hnm, hcl, htp⟩ := hq; have ts := htp.size; simp at ts))
  rw [hk0]
  clear hk0
  have hB1 : Below w.heap.size w w1 := (((Below.refl _ _).alloc (Nat.le_refl _) _)).trans (htp.toBelow (by simp) (Nat.le_refl _))
  have hA : Below w1.heap.size w1 ((w1.alloc (.cells #[.slice sl.a 1 sl.cap] 37)).alloc (.cells (chainQ (fun _ => 0) 0).cells.toArray 63)) := by
    repeat first | with_reducible exact Below.refl _ _ | with_reducible refine Below.setCell ?_ (by first | omega | (simp; done) | (simp; omega)) _ | with_reducible refine Below.alloc ?_ (by first | omega | (simp; done) | (simp; omega)) _ | with_reducible refine Below.drew ?_ | with_reducible refine Ext.on _ ?_ (by first | omega | (simp; done) | (simp; omega))
  have h3 : ((w1.alloc (.cells #[.slice sl.a 1 sl.cap] 37)).alloc (.cells (chainQ (fun _ => 0) 0).cells.toArray 63)).heap[w1.heap.size]? = some (.cells #[.slice sl.a 1 sl.cap] 37) := (Below.heap_alloc _ _ _ (by simp)).trans (heap_alloc_new w1 _)
  have h4 : ((w1.alloc (.cells #[.slice sl.a 1 sl.cap] 37)).alloc (.cells (chainQ (fun _ => 0) 0).cells.toArray 63)).heap[w1.heap.size + 1]? = some (.cells (chainQ (fun _ => 0) 0).cells.toArray 63) := heap_alloc_at _ _ (by simp)
  have hs0 : w1.heap.size + 2 ≤ ((w1.alloc (.cells #[.slice sl.a 1 sl.cap] 37)).alloc (.cells (chainQ (fun _ => 0) 0).cells.toArray 63)).heap.size := by simp
  change Code.wp _ _ _ _ ((w1.alloc (.cells #[.slice sl.a 1 sl.cap] 37)).alloc (.cells (chainQ (fun _ => 0) 0).cells.toArray 63))
  generalize ((w1.alloc (.cells #[.slice sl.a 1 sl.cap] 37)).alloc (.cells (chainQ (fun _ => 0) 0).cells.toArray 63)) = W0 at hA h3 h4 hs0 ⊢
  have HB1 := Lib.hid hB1
  have HA := Lib.hid hA
  have H3 := Lib.hid h3
  have H4 := Lib.hid h4
  have HTab := Lib.hid htab
  have HNm := Lib.hid hnm
  have HCl := Lib.hid hcl
  clear hB1 hA h3 h4 htab hnm hcl htp HT
  go_loopw [6] (fun i wr => ∃ (j : Nat) (bs : Nat → Nat), j ≤ k ∧ i = .int .i64 (j : Nat) ∧ ChainAt (w1.heap.size + 1) j bs wr ∧ wr.heap[w1.heap.size + 1]? = some (.cells (chainQ bs j).cells.toArray 63) ∧ Tp (w1.heap.size + 1) W0 wr) (fun i _ => k - (intOf i).toNat)
  case atStart => exact ⟨0, fun _ => 0, by omega, rfl, fun j hj => absurd hj (Nat.not_lt_zero _), H4.out, Tp.refl _ _⟩
  case round =>
    obtain ⟨j, bs, hj, rfl, hch, hq, htp⟩ := hrel
    have HC := Lib.hid hch
    have HQ := Lib.hid hq
    have HP := Lib.hid htp
    have hsz := htp.size
    obtain ⟨hbq, hfz, c0, c1, c2, c3, c4, c5, c6, c7, c8, c9, c10, c11, c12, c13, c14⟩ := fifteen_q hq
    clear hch hq htp
    by_cases hlt : j < k
    · have hf0 := hfz 0
      have hf1 := hfz 1
      have hf2 := hfz 2
      have hf3 := hfz 3
      have hf4 := hfz 4
      have hf5 := hfz 5
      have hf6 := hfz 6
      have hf7 := hfz 7
      have hf8 := hfz 8
      have hf9 := hfz 9
      have hf10 := hfz 10
      have hf11 := hfz 11
      have hf12 := hfz 12
      have hf13 := hfz 13
      have hf14 := hfz 14
      clear hfz
      go_wp2_with fail
      obtain ⟨hs1, hs2, hs3⟩ := step15 (g := wr.heap.size) HQ.out
      refine ⟨⟨j + 1, more bs j wr.heap.size, by omega, by go_num, (HC.out.tp (hs2.alloc _)).push hbq (heap_alloc_at _ _ hs1.symm), (Below.heap_alloc _ _ _ (by omega)).trans (hs3.trans ?_), HP.out.trans (hs2.alloc _)⟩, by simp [intOf]; omega⟩
      rw [chain_succ, more_at]
    · have hjk : j = k := by omega
      subst hjk
      have hB2 : Below w1.heap.size w1 wr := HA.out.trans (HP.out.toBelow (by omega) (by omega))
      have hB3 : Below w.heap.size w wr := HB1.out.trans (hB2.mono HB1.out.size)
      have hO := HO.out.later hB3
      have hT := HTab.out.later hB2
      have hb3 := (HP.out.block w1.heap.size (by omega) (by omega)).trans H3.out
      obtain ⟨q3, p3, k3⟩ := one_z hb3
      have hqat := HC.out.q j
      have hsc' : ∀ W', Below wr.heap.size wr W' → Calls Tryd.prog 150 #[.agg #[.slice sl.a 1 sl.cap], .string ⟨#[116, 48]⟩] W' (TysIs 2 W') := fun W' hW' => by
        have hsc := scanTypes_first sl tb ⟨#[116, 48]⟩ W' (hT.later hW') (by omega) HNm.out (by have := HCl.out; omega)
        rw [HCl.out, hsl] at hsc
        exact hsc
      obtain ⟨tr, to, ta, tlt, tc⟩ := tab0 hT (by omega)
      rw [HCl.out] at tc
      have HD : Hid (∀ W, Below wr.heap.size wr W → Calls Tryd.prog 27 #[.agg #[.int .i64 (chainQ bs j).p.op, .string (chainQ bs j).p.table, .int .i64 (chainQ bs j).p.kind, .bool (chainQ bs j).p.all, .int .i64 (chainQ bs j).p.cond.op, .int .i64 (chainQ bs j).p.cond.ty, .int .i64 (chainQ bs j).p.cond.num, .string (chainQ bs j).p.cond.text, .int .i64 (chainQ bs j).p.cond.col, .slice (chainQ bs j).p.ck.a (chainQ bs j).p.ck.len (chainQ bs j).p.ck.cap, .slice (chainQ bs j).p.es.a (chainQ bs j).p.es.len (chainQ bs j).p.es.cap, .slice (chainQ bs j).p.gs.a (chainQ bs j).p.gs.len (chainQ bs j).p.gs.cap, .slice (chainQ bs j).p.ts.a (chainQ bs j).p.ts.len (chainQ bs j).p.ts.cap, .slice (chainQ bs j).p.rs.a (chainQ bs j).p.rs.len (chainQ bs j).p.rs.cap, .slice (chainQ bs j).ks.a (chainQ bs j).ks.len (chainQ bs j).ks.cap]] W fun r w' => r = .returned (.int .i64 ((j : Nat) + 1)) ∧ Cls W w') := Lib.hid (fun W hW => (Depth_calls _ W (hqat.later hW) (by rw [chain_count]; omega)).mono fun r w' ⟨h1, h2⟩ => ⟨by rw [h1, chain_depth]; rfl, h2⟩)
      by_cases h24 : j + 1 ≤ 24
      · have HTy : Hid (∀ W, Below wr.heap.size wr W → Calls Tryd.prog 21 #[.agg #[.slice sl.a 1 sl.cap], .agg #[.int .i64 (chainQ bs j).p.op, .string (chainQ bs j).p.table, .int .i64 (chainQ bs j).p.kind, .bool (chainQ bs j).p.all, .int .i64 (chainQ bs j).p.cond.op, .int .i64 (chainQ bs j).p.cond.ty, .int .i64 (chainQ bs j).p.cond.num, .string (chainQ bs j).p.cond.text, .int .i64 (chainQ bs j).p.cond.col, .slice (chainQ bs j).p.ck.a (chainQ bs j).p.ck.len (chainQ bs j).p.ck.cap, .slice (chainQ bs j).p.es.a (chainQ bs j).p.es.len (chainQ bs j).p.es.cap, .slice (chainQ bs j).p.gs.a (chainQ bs j).p.gs.len (chainQ bs j).p.gs.cap, .slice (chainQ bs j).p.ts.a (chainQ bs j).p.ts.len (chainQ bs j).p.ts.cap, .slice (chainQ bs j).p.rs.a (chainQ bs j).p.rs.len (chainQ bs j).p.rs.cap, .slice (chainQ bs j).ks.a (chainQ bs j).ks.len (chainQ bs j).ks.cap]] W (TysIs 2 W)) := Lib.hid (fun W hW => Type_chain sl.a 1 sl.cap 2 bs j W (hO.later hW) (hqat.later hW) h24 fun W' hW' => hsc' W' (hW.trans (hW'.mono hW.size)))
        have d1 : decide (24 < (j : Int) + 1) = false := by simp; omega
        rw [ta] at k3 HTy
        have hTb := tc
        clear hfz hqat hsc' hT hO hb3
        go_wp2_with (first | (go_at_call 21; ((with_reducible refine (HTy.out _ (Below.refl _ _)).mono ?_); rintro e2 w2 hq2; obtain ⟨s, rfl, hs, z, rfl⟩ := hq2; obtain ⟨a0, _⟩ := z.lts (b := tr) tlt; obtain ⟨a1, _⟩ := z.lts (b := w1.heap.size) q3; obtain ⟨a2, _⟩ := z.lts (b := w1.heap.size + 1) hbq)) | (go_at_call 27; ((with_reducible refine (HD.out _ ?_).mono ?_); (· repeat first | with_reducible exact Below.refl _ _ | with_reducible refine Below.setCell ?_ (by first | omega | (simp; done) | (simp; omega)) _ | with_reducible refine Below.alloc ?_ (by first | omega | (simp; done) | (simp; omega)) _ | with_reducible refine Below.drew ?_ | with_reducible refine Ext.on _ ?_ (by first | omega | (simp; done) | (simp; omega))); rintro e3 w3 hq3; obtain ⟨rfl, y, rfl⟩ := hq3)))
        go_ret
        refine ⟨rfl, ?_⟩
        exact hB3.trans ((z.below.trans (y.below.mono z.size)).mono hB3.size)
      · have HTy : Hid (Calls Tryd.prog 21 #[.agg #[.slice sl.a 1 sl.cap], .agg #[.int .i64 (chainQ bs j).p.op, .string (chainQ bs j).p.table, .int .i64 (chainQ bs j).p.kind, .bool (chainQ bs j).p.all, .int .i64 (chainQ bs j).p.cond.op, .int .i64 (chainQ bs j).p.cond.ty, .int .i64 (chainQ bs j).p.cond.num, .string (chainQ bs j).p.cond.text, .int .i64 (chainQ bs j).p.cond.col, .slice (chainQ bs j).p.ck.a (chainQ bs j).p.ck.len (chainQ bs j).p.ck.cap, .slice (chainQ bs j).p.es.a (chainQ bs j).p.es.len (chainQ bs j).p.es.cap, .slice (chainQ bs j).p.gs.a (chainQ bs j).p.gs.len (chainQ bs j).p.gs.cap, .slice (chainQ bs j).p.ts.a (chainQ bs j).p.ts.len (chainQ bs j).p.ts.cap, .slice (chainQ bs j).p.rs.a (chainQ bs j).p.rs.len (chainQ bs j).p.rs.cap, .slice (chainQ bs j).ks.a (chainQ bs j).ks.len (chainQ bs j).ks.cap]] wr fun r w' => r = .returned (.tuple #[.slice none 0 0, .int .i64 13]) ∧ Cls wr w') := Lib.hid (Type_chain_deep sl.a 1 sl.cap bs j wr hO hqat (by omega) hkl)
        have d1 : decide (24 < (j : Int) + 1) = true := by simp; omega
        rw [ta] at k3 HTy
        clear hfz hqat hsc' hT hO hb3
        go_wp2_with (go_at_call 21; ((with_reducible refine HTy.out.mono ?_); rintro e2 w2 hq2; obtain ⟨rfl, z, rfl⟩ := hq2))
        go_ret
        refine ⟨rfl, ?_⟩
        exact hB3.trans (z.below.mono hB3.size)
end Go.Proofs.YtbnhmjecjeifdaaDoor
