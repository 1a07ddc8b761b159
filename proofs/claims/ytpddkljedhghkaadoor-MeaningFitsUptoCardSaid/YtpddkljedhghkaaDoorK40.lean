/-
  MeaningFits: what the law does, whatever schema and instance it is given, where no check of the schema has too many nodes.
-/
import Derived.Test.YtpddkljedhghkaaDoorK27
import Derived.Test.YtpddkljedhghkaaDoorK28
import Derived.Test.YtpddkljedhghkaaDoorK38
import Derived.Test.YtpddkljedhghkaaDoorK35
import Derived.Test.YtpddkljedhghkaaDoorK39
set_option linter.unusedVariables false
namespace Go.Proofs.YtpddkljedhghkaaDoor
open Go Go.RowKit Go.Deep
theorem numInM {w : World} {s : Sl} {l : List Int} (hl : l.length = s.len) (h : SlAt w 1 s (intC fun i => l.getD i 0)) : NumIn w s.a s.len s.cap l := by
  refine ⟨hl, h.1, h.2.1, ?_⟩
  by_cases h0 : s.len = 0
  · exact .inl h0
  · obtain ⟨b, off, ha, hb, _⟩ := h.2.2.2 0 (by omega)
    refine .inr ⟨b, off, ha, hb, fun i hi => ?_⟩
    obtain ⟨b', off', ha', _, hc⟩ := h.2.2.2 i hi
    rw [ha] at ha'
    obtain ⟨rfl, rfl⟩ : b = b' ∧ off = off' := by simpa using ha'
    have := hc 0 (by omega)
    simpa [intC] using this
theorem textM {w : World} {ok : Nat → Prop} {a : Option Addr} {len cap : Nat} {l : List Ex} (h : Kids w ok a len cap l) {i : Nat} (hi : i < l.length) : (l.getD i Ex.z).text.size ≤ maxLen := by
  cases h with
  | mk a len cap l ad lens caps hl hc hm hn hcell hf h => exact (hf i (by omega)).2.2.2.1
def gM (tb : Nat → Tb) (i k : Nat) : Int × Int := tyT (tyL (tb i).col (tb i).cs.len) ((tb i).checks.getD k Ex.z)
theorem both_fit {w : World} {sl : Sl} {tb : Nat → Tb} {s : Sl} {t : Nat → Sl} {r : Nat → Nat → Sl} {f : Nat → Nat → Nat → Vl} (h : TabsAt w sl tb) (hi : InsAt w s t r f) (hs : ∀ i, i < sl.len → sizL (tb i).checks ≤ 1000000) (hf : ∀ i, i < sl.len → TbFew (tb i)) (ho : OpsTab w) :
    ∃ v : Int, (∀ W, Below w.heap.size w W → Calls Tryd.prog 21 #[.agg #[.slice sl.a sl.len sl.cap], .agg #[.slice s.a s.len s.cap]] W fun e w' => e = .returned (.int .i64 v) ∧ Cls W w') ∧
      ∀ W, Below w.heap.size w W → Calls Tryd.prog 22 #[.agg #[.slice sl.a sl.len sl.cap], .agg #[.slice s.a s.len s.cap]] W fun e w' => e = .returned (.int .i64 v) ∧ Cls W w' := by
  have hb : ∀ i, i < sl.len → ∀ k, k < (tb i).checks.length → sizE ((tb i).checks.getD k Ex.z) ≤ 1000000 ∧ depE ((tb i).checks.getD k Ex.z) ≤ 1000 := fun i hi k hk => by
    have h1 := sizL_mem _ (getD_mem hk)
    have h2 := hs i hi
    have h3 := bigB_dep ((hf i hi).2 k hk)
    omega
  have C1 : ∀ W, Below w.heap.size w W → Calls Tryd.prog 17 #[.agg #[.slice sl.a sl.len sl.cap]] W fun e w' => e = .returned (.int .i64 (validE sl tb (gM tb))) ∧ Cls W w' := fun W hW => sValid_calls sl tb (gM tb) W (h.later hW) fun i hi k hk W2 u a len cap hW2 hul hu hkk => by
    have hk0 := (h.2 i hi).kids
    exact TypeG_calls (tyL (tb i).col (tb i).cs.len) ((tb i).checks.getD k Ex.z) u.a u.len u.cap a len cap _ W2 (numInM (by rw [tyL_len, hul]) hu) hkk (textM hk0 hk) (hb i hi k hk).1 (hb i hi k hk).2 ((ho.later hW).later hW2)
  have C2 : ∀ W, Below w.heap.size w W → Calls Tryd.prog 18 #[.agg #[.slice sl.a sl.len sl.cap]] W fun e w' => e = .returned (.int .i64 (validE sl tb (gM tb))) ∧ Cls W w' := fun W hW => rsValid_calls sl tb (gM tb) W (h.later hW) fun i hi k hk W2 u a len cap hW2 hul hu hkk => by
    have hk0 := (h.2 i hi).kids
    exact rTypeG_calls (tyL (tb i).col (tb i).cs.len) ((tb i).checks.getD k Ex.z) u.a u.len u.cap a len cap _ W2 (numInM (by rw [tyL_len, hul]) hu) hkk (textM hk0 hk) (hb i hi k hk).1 (hb i hi k hk).2
  exact ⟨fitE (validE sl tb (gM tb)) sl.len tb s.len t r f, fun W hW => Fits_calls sl tb _ s t r f W (h.later hW) (hi.later hW) (fun W2 hW2 => C1 W2 (hW.trans (hW2.mono hW.size))) fun i hi => by have := (hf i hi).1; omega,
    fun W hW => rFits_calls sl tb _ s t r f W (h.later hW) (hi.later hW) fun W2 hW2 => C2 W2 (hW.trans (hW2.mono hW.size))⟩
theorem fits_none (b : Nat) (ty : TypeId) (w : World) (hb : w.heap[b]? = some (.cells #[.slice none 0 0] ty)) :
    Calls Tryd.prog 21 #[.agg #[.slice none 0 0], .agg #[.slice (some ⟨b, 0, none⟩) 1 1]] w fun e w' => e = .returned (.int .i64 9) ∧ Cls w w' := by
  have h0 : TabsAt w Sl.z (fun _ => default) := ⟨⟨Nat.le_refl _, Nat.zero_le _, fun _ => ⟨rfl, rfl⟩, fun i hi => absurd hi (Nat.not_lt_zero _)⟩, fun i hi => absurd hi (Nat.not_lt_zero _)⟩
  obtain ⟨hlt, _, hc⟩ := one_z hb
  have hi : InsAt w ⟨some ⟨b, 0, none⟩, 1, 1⟩ (fun _ => Sl.z) (fun _ _ => Sl.z) (fun _ _ _ => Vl.z) := by
    refine ⟨⟨Nat.le_refl _, by unfold maxLen; simp, (fun h => by cases h), fun i hi => ⟨b, 0, rfl, hlt, fun j hj => ?_⟩⟩, fun i hi => ⟨⟨Nat.le_refl _, Nat.zero_le _, fun _ => ⟨rfl, rfl⟩, fun i hi => absurd hi (Nat.not_lt_zero _)⟩, fun i hi => absurd hi (Nat.not_lt_zero _), fun i hi => absurd hi (Nat.not_lt_zero _)⟩⟩
    have hi2 : i < 1 := hi
    obtain rfl : i = 0 := by omega
    obtain rfl : j = 0 := by omega
    exact hc
  have hz : validE Sl.z (fun _ => default) (fun _ _ => (0, 0)) = 0 := rfl
  have := Fits_calls Sl.z (fun _ => default) 0 ⟨some ⟨b, 0, none⟩, 1, 1⟩ (fun _ => Sl.z) (fun _ _ => Sl.z) (fun _ _ _ => Vl.z) w h0 hi (fun W hW => by
    have h1 := sValid_calls Sl.z (fun _ => default) (fun _ _ => (0, 0)) W (h0.later hW) fun i hi => absurd hi (Nat.not_lt_zero _)
    rw [hz] at h1
    exact h1) fun i hi => absurd hi (Nat.not_lt_zero _)
  exact this
set_option maxHeartbeats 16000000 in
set_option maxRecDepth 100000 in
theorem meaningFits_walk (sl : Sl) (tb : Nat → Tb) (s : Sl) (t : Nat → Sl) (r : Nat → Nat → Sl) (f : Nat → Nat → Nat → Vl) (w : World) (h : TabsAt w sl tb) (hs : ∀ i, i < sl.len → sizL (tb i).checks ≤ 1000000) (hi : InsAt w s t r f) (ho : OpsTab w) :
    Calls Tryd.prog 5 #[.agg #[.slice sl.a sl.len sl.cap], .agg #[.slice s.a s.len s.cap]] w fun e w' => e = .returned (.bool true) ∧ Below w.heap.size w w' := by
  have F3 : Hid (∀ W, Below w.heap.size w W → Calls Tryd.prog 19 #[.agg #[.slice sl.a sl.len sl.cap]] W fun e w' => FewIs sl tb W e w') := Lib.hid fun W hW => Few3_calls sl tb W (h.later hW)
  have F8 : Hid (∀ W, Below w.heap.size w W → Calls Tryd.prog 20 #[.agg #[.slice s.a s.len s.cap]] W fun e w' => ∃ b : Bool, e = .returned (.bool b) ∧ Cls W w') := Lib.hid fun W hW => Few8_calls s t r f W (hi.later hW)
  have HB : Hid ((∀ i, i < sl.len → TbFew (tb i)) → ∃ v : Int, (∀ W, Below w.heap.size w W → Calls Tryd.prog 21 #[.agg #[.slice sl.a sl.len sl.cap], .agg #[.slice s.a s.len s.cap]] W fun e w' => e = .returned (.int .i64 v) ∧ Cls W w') ∧
      ∀ W, Below w.heap.size w W → Calls Tryd.prog 22 #[.agg #[.slice sl.a sl.len sl.cap], .agg #[.slice s.a s.len s.cap]] W fun e w' => e = .returned (.int .i64 v) ∧ Cls W w') := Lib.hid fun hf => both_fit h hi hs hf ho
  unfold FewIs at F3
  have HFZ : Hid (∀ (b : Nat) (W : World), W.heap[b]? = some (.cells #[.slice none 0 0] 68) → Calls Tryd.prog 21 #[.agg #[.slice none 0 0], .agg #[.slice (some ⟨b, 0, none⟩) 1 1]] W fun e w' => e = .returned (.int .i64 9) ∧ Cls W w') := Lib.hid fun b W => fits_none b _ W
  clear h hi hs ho
  generalize (∀ i, i < sl.len → TbFew (tb i)) = FW at F3 HB
  obtain ⟨sa, sn, sc⟩ := sl
  obtain ⟨ia, im, ic⟩ := s
  simp only at F3 F8 HB ⊢
  have hbl1 : ((w.alloc (.cells #[.slice sa sn sc] 45)).alloc (.cells #[.slice ia im ic] 61)).heap[w.heap.size]? = some (.cells #[.slice sa sn sc] 45) := by
    rw [(((Below.refl _ _).alloc (Nat.le_refl _) _) : Below (w.alloc (.cells #[.slice sa sn sc] 45)).heap.size (w.alloc (.cells #[.slice sa sn sc] 45)) ((w.alloc (.cells #[.slice sa sn sc] 45)).alloc (.cells #[.slice ia im ic] 61))).block w.heap.size (by simp)]
    exact heap_alloc_new w _
  have hbl2 : ((w.alloc (.cells #[.slice sa sn sc] 45)).alloc (.cells #[.slice ia im ic] 61)).heap[w.heap.size + 1]? = some (.cells #[.slice ia im ic] 61) := by
    have := heap_alloc_new (w.alloc (.cells #[.slice sa sn sc] 45)) (.cells #[.slice ia im ic] 61)
    simpa using this
  have HBL1 := Lib.hid hbl1
  have HBL2 := Lib.hid hbl2
  have HB0 : Hid (Below w.heap.size w ((w.alloc (.cells #[.slice sa sn sc] 45)).alloc (.cells #[.slice ia im ic] 61))) := Lib.hid (by repeat first | with_reducible exact Below.refl _ _ | with_reducible refine Below.setCell ?_ (by first | omega | (simp; done) | (simp; omega)) _ | with_reducible refine Below.alloc ?_ (by first | omega | (simp; done) | (simp; omega)) _ | with_reducible refine Below.drew ?_ | with_reducible refine Ext.on _ ?_ (by first | omega | (simp; done) | (simp; omega)))
  have h0s : ((w.alloc (.cells #[.slice sa sn sc] 45)).alloc (.cells #[.slice ia im ic] 61)).heap.size = w.heap.size + 2 := by simp
  have h0a : w.heap.size < ((w.alloc (.cells #[.slice sa sn sc] 45)).alloc (.cells #[.slice ia im ic] 61)).heap.size := by omega
  have h0b : w.heap.size + 1 < ((w.alloc (.cells #[.slice sa sn sc] 45)).alloc (.cells #[.slice ia im ic] 61)).heap.size := by omega
  clear hbl1 hbl2 h0s
  go_enter Tryd.func5, Tryd.ntmps5
  go_wp2_with (first | (go_at_call 19; ((with_reducible refine (F3.out _ HB0.out).mono ?_); rintro e _ ⟨b1, rfl, hb1, y, rfl⟩; have HF1 := Lib.hid hb1; clear hb1; have ys := y.size; obtain ⟨l1, l2, l3, l4, l5⟩ := y.lts h0a; obtain ⟨l6, l7, l8, l9, l10⟩ := y.lts h0b; cases b1)) | (go_at_call 20; ((with_reducible refine (F8.out _ (y.on HB0.out (by omega))).mono ?_); rintro e _ ⟨b2, rfl, y2, rfl⟩; have ys2 := y2.size; cases b2)))
  · go_ret
    exact ⟨rfl, y.on HB0.out (by omega)⟩
  · go_ret
    exact ⟨rfl, y2.on (y.on HB0.out (by omega)) (by omega)⟩
  · obtain ⟨v, c1, c2⟩ := HB.out (HF1.out trivial).2
    have C1 := Lib.hid c1
    have C2 := Lib.hid c2
    have HS1 := Lib.hid ((y2.below.block _ l1).trans ((y.below.block _ h0a).trans HBL1.out))
    have HS2 := Lib.hid ((y2.below.block _ l6).trans ((y.below.block _ h0b).trans HBL2.out))
    have HBY : Hid (Below w.heap.size w y2.val) := Lib.hid (y2.on (y.on HB0.out (by omega)) (by omega))
    have hY : w.heap.size + 1 < y2.val.heap.size := by omega
    clear HBL1 HBL2 HB0 h0a h0b l1 l2 l3 l4 l5 l6 l7 l8 l9 l10 ys ys2 c1 c2 HB HF1 F3 F8
    generalize y2.val = Y at *
    obtain ⟨b0, _, k1⟩ := one_z HS1.out
    obtain ⟨b1, _, k2⟩ := one_z HS2.out
    refine LN.wp_region_lin (by kernel_rfl) (by kernel_rfl) ?_
    intro x0
    have x0s := x0.size
    repeat (refine LN.lin_calm rfl ?_; intro KK hKK; go_big_quiet_step (fail); refine wpQuiet_nil ?_; refine hKK _ ?_; clear hKK KK)
    refine LN.lin_free rfl ?_
    intro KK hKK
    go_wp2_with (go_at_call 21; ((with_reducible refine (C1.out _ (x0.on HBY.out (by omega))).mono ?_); rintro e _ ⟨rfl, z1, rfl⟩; have z1s := z1.size))
    have HZ1 := Lib.hid (z1.on x0.below (by omega))
    refine hKK _ _ (.inr ⟨⟨z1.val, HZ1.out⟩, rfl⟩) ?_
    clear hKK KK
    repeat (refine LN.lin_calm rfl ?_; intro KK hKK; go_big_quiet_step (fail); refine wpQuiet_nil ?_; refine hKK _ ?_; clear hKK KK)
    refine LN.lin_free rfl ?_
    intro KK hKK
    go_wp2_with (go_at_call 22; ((with_reducible refine (C2.out _ (HBY.out.trans (HZ1.out.mono HBY.out.size))).mono ?_); rintro e _ ⟨rfl, z2, rfl⟩; have z2s := z2.size))
    have HZ2 := Lib.hid (z2.on HZ1.out (by omega))
    refine hKK _ _ (.inr ⟨⟨z2.val, HZ2.out⟩, rfl⟩) ?_
    clear hKK KK
    repeat (refine LN.lin_calm rfl ?_; intro KK hKK; go_big_quiet_step (fail); refine wpQuiet_nil ?_; refine hKK _ ?_; clear hKK KK)
    refine LN.lin_free rfl ?_
    intro KK hKK
    go_wp2_with fail
    have HAL : Hid (Below z2.val.heap.size z2.val (z2.val.alloc (.cells #[.slice none 0 0] 68))) := Lib.hid ((Below.refl _ _).alloc (Nat.le_refl _) _)
    have HZ3 := Lib.hid (HZ2.out.trans (HAL.out.mono (by omega)))
    refine hKK _ _ (.inr ⟨⟨_, HZ3.out⟩, rfl⟩) ?_
    clear hKK KK
    repeat (refine LN.lin_calm rfl ?_; intro KK hKK; go_big_quiet_step (fail); refine wpQuiet_nil ?_; refine hKK _ ?_; clear hKK KK)
    refine LN.lin_free rfl ?_
    intro KK hKK
    go_wp2_with (go_at_call 21; ((with_reducible refine (HFZ.out _ _ (heap_alloc_new _ _)).mono ?_); rintro e _ ⟨rfl, z4, rfl⟩; have z4s := z4.size))
    have HZ4 := Lib.hid (z4.on HZ3.out HZ3.out.size)
    refine hKK _ _ (.inr ⟨⟨z4.val, HZ4.out⟩, rfl⟩) ?_
    clear hKK KK
    repeat (refine LN.lin_calm rfl ?_; intro KK hKK; go_big_quiet_step (fail); refine wpQuiet_nil ?_; refine hKK _ ?_; clear hKK KK)
    refine LN.lin_nil ?_
    go_wp2_with fail
    go_ret
    exact ⟨rfl, HBY.out.trans (HZ4.out.mono HBY.out.size)⟩
end Go.Proofs.YtpddkljedhghkaaDoor
