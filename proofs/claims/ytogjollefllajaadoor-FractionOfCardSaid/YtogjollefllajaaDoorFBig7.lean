/-
  The reference's comparison of fractions.
-/
import Derived.Test.YtogjollefllajaaDoorFBig5
import Derived.Test.YtogjollefllajaaDoorFOrdM
set_option linter.unusedVariables false
namespace Go.Proofs.YtogjollefllajaaDoor
open Go Go.RowKit Go.Deep
theorem new3_0 (w : World) (o o' o'' : Obj) : (((w.alloc o).alloc o').alloc o'').heap[w.heap.size]? = some o := by
  have := (((Below.refl (w.heap.size + 1) (w.alloc o)).alloc (by simp) o').alloc (by simp) o'').block w.heap.size (by omega)
  exact this.trans (heap_alloc_new w o)
theorem new3_1 (w : World) (o o' o'' : Obj) : (((w.alloc o).alloc o').alloc o'').heap[w.heap.size + 1]? = some o' := by
  have := ((Below.refl (w.heap.size + 1 + 1) ((w.alloc o).alloc o')).alloc (by simp) o'').block (w.heap.size + 1) (by omega)
  have h := heap_alloc_new (w.alloc o) o'
  exact this.trans (by simpa using h)
theorem cell_after2 (W : World) (T : Nat) (c : Addr) (v0 v1 : Value) (h : c.block ≠ T) : ((W.setCell ⟨T, 0, none⟩ v0).setCell ⟨T, 1, none⟩ v1).cell? c = W.cell? c := by
  refine World.cell?_of_block ?_
  rw [heap_setCell_other _ _ _ _ h, heap_setCell_other _ _ _ _ h]
theorem cell_a20 (W : World) (b off : Nat) (v0 v1 : Value) : ((W.setCell ⟨b + 1 + 1, 0, none⟩ v0).setCell ⟨b + 1 + 1, 1, none⟩ v1).cell? ⟨b, off, none⟩ = W.cell? ⟨b, off, none⟩ := cell_after2 _ _ _ _ _ (by show b ≠ b + 1 + 1; omega)
theorem cell_a21 (W : World) (b off : Nat) (v0 v1 : Value) : ((W.setCell ⟨b + 1 + 1, 0, none⟩ v0).setCell ⟨b + 1 + 1, 1, none⟩ v1).cell? ⟨b + 1, off, none⟩ = W.cell? ⟨b + 1, off, none⟩ := cell_after2 _ _ _ _ _ (by show b + 1 ≠ b + 1 + 1; omega)
theorem below2 {B : Nat} {w0 W : World} {T : Nat} (h : Below B w0 W) (hT : B ≤ T) (v0 v1 : Value) : Below B w0 ((W.setCell ⟨T, 0, none⟩ v0).setCell ⟨T, 1, none⟩ v1) := (h.setCell hT v0).setCell hT v1
theorem va_big3 {n d : Int} (h : vaB n d = true) : n.natAbs < 1000000000 ^ 3 ∧ d.natAbs < 1000000000 ^ 3 ∧ 0 < d.natAbs := by
  obtain ⟨h1, h2, h3, h4⟩ := vaB_rng h
  rw [show (1000000000 : Nat) ^ 3 = 1000000000000000000000000000 from rfl]
  omega
theorem pow_big {x k : Nat} (h : x < 1000000000 ^ k) (hk : k ≤ 100) : x < 1000000000 ^ 100 := Nat.lt_of_lt_of_le h (Nat.pow_le_pow_right (by omega) hk)
theorem va_big {n d : Int} (h : vaB n d = true) : n.natAbs < 1000000000 ^ 100 ∧ d.natAbs < 1000000000 ^ 100 ∧ 0 < d.natAbs := by
  obtain ⟨h1, h2, h3⟩ := va_big3 h
  exact ⟨pow_big h1 (by omega), pow_big h2 (by omega), h3⟩
theorem new2_0 (w : World) (o o' : Obj) : ((w.alloc o).alloc o').heap[w.heap.size]? = some o := by
  have := ((Below.refl (w.heap.size + 1) (w.alloc o)).alloc (by simp) o').block w.heap.size (by omega)
  exact this.trans (heap_alloc_new w o)
theorem new2_1 (w : World) (o o' : Obj) : ((w.alloc o).alloc o').heap[w.heap.size + 1]? = some o' := by
  have h := heap_alloc_new (w.alloc o) o'
  simpa using h
theorem sign_fr (N : Int) {D : Nat} (hD : 0 < D) : cmpI (frI N D) 0 = cmpI N 0 := by
  have h1 := frI_neg (N := N) hD
  have h2 := frI_mul N D
  have h3 : (0 : Int) < ((Nat.gcd N.natAbs D : Nat) : Int) := by have := gcd_pos_right (a := N.natAbs) hD; omega
  by_cases h : N < 0
  · rw [show cmpI N 0 = -1 from if_pos h, show cmpI (frI N D) 0 = -1 from if_pos (h1.2 h)]
  · have h4 : ¬ frI N D < 0 := fun e => h (h1.1 e)
    by_cases h5 : N = 0
    · rw [h5, frI_zero]
    · have h6 : frI N D ≠ 0 := fun e => by rw [e, Int.mul_zero] at h2; exact h5 h2.symm
      unfold cmpI
      rw [if_neg h, if_neg h4, if_pos (by omega), if_pos (by omega)]
theorem cmpI_sub (x y : Int) : cmpI (x + -y) 0 = cmpI x y := by unfold cmpI; split <;> (try split) <;> (try split) <;> (try split) <;> omega
set_option maxHeartbeats 16000000 in
set_option maxRecDepth 20000 in
theorem rCompare_yes (an ad bn bd : Int) (w : World) (h1 : In64 an) (h2 : In64 ad) (h3 : In64 bn) (h4 : In64 bd) (ha : vaB an ad = true) (hb : vaB bn bd = true) (N : Int) (D : Nat) (eN : an * bd + -bn * ad = N) (eD : ad.natAbs * bd.natAbs = D) (r : Int) (er : cmpI (frI N D) 0 = r) :
    Calls Tryd.prog 7 #[.agg #[.int .i64 an, .int .i64 ad], .agg #[.int .i64 bn, .int .i64 bd]] w fun e w' => e = .returned (.int .i64 r) ∧ Cls w w' := by
  have V1 := Lib.hid (fun W => rValid_calls an ad W)
  have V2 := Lib.hid (fun W => rValid_calls bn bd W)
  rw [ha] at V1
  rw [hb] at V2
  have C1 := Lib.hid (fun W => Make_calls an ad W h1 h2)
  have C2 := Lib.hid (fun W => Make_calls bn bd W h3 h4)
  obtain ⟨p1, p2, p3⟩ := va_big ha
  obtain ⟨q1, q2, q3⟩ := va_big hb
  obtain ⟨ra, _, _, _⟩ := vaB_rng ha
  obtain ⟨rb, _, _, _⟩ := vaB_rng hb
  have K1 := Lib.hid p1
  have K2 := Lib.hid p2
  have K3 : Hid ((-bn).natAbs < 1000000000 ^ 100) := Lib.hid (by simpa using q1)
  have K4 := Lib.hid q2
  have K5 := Lib.hid (Nat.mul_pos p3 q3)
  have EN : Hid (an * ((bd.natAbs : Nat) : Int) + -bn * ((ad.natAbs : Nat) : Int) = N) := Lib.hid (by rw [← eN, show ((bd.natAbs : Nat) : Int) = bd by omega, show ((ad.natAbs : Nat) : Int) = ad by omega])
  have ED := Lib.hid eD
  have NB : Hid (∀ (W : World) (s : Sl), NumAt W s bn.natAbs → NumAt W s (-bn).natAbs) := Lib.hid fun W s h => by rwa [Int.natAbs_neg]
  obtain ⟨gb, hgb⟩ : ∃ gb, decide (-bn < 0) = gb := ⟨_, rfl⟩
  have HG := Lib.hid hgb
  have HR := Lib.hid er
  clear hgb h1 h2 h3 h4 ha hb p1 p2 p3 q1 q2 q3 eN eD er ra rb
  go_enter Tryd.func7, Tryd.ntmps7
  go_wp2_with (first | (go_at_call 20; (with_reducible refine (V1.out _).mono ?_); rintro e _ ⟨rfl, ⟨v1, rfl⟩⟩; have v1s := v1.size; (try simp at v1s); have v1a : w.heap.size < v1.val.heap.size := (by omega); have v1b : w.heap.size + 1 < v1.val.heap.size := (by omega)) | (go_at_call 20; (with_reducible refine (V2.out _).mono ?_); rintro e _ ⟨rfl, ⟨v2, rfl⟩⟩; have v2s := v2.size; (try simp at v2s); have v2a : w.heap.size < v2.val.heap.size := (by omega); have v2b : w.heap.size + 1 < v2.val.heap.size := (by omega)))
  have B0 := (v2.below.block (w.heap.size) (by omega)).trans ((v1.below.block (w.heap.size) (by simp; omega)).trans (new2_0 w _ _))
  have B1 := (v2.below.block (w.heap.size + 1) (by omega)).trans ((v1.below.block (w.heap.size + 1) (by simp)).trans (new2_1 w _ _))
  obtain ⟨_, _, _, z0, z1⟩ := two_z B0
  obtain ⟨_, _, _, z2, z3⟩ := two_z B1
  clear B0 B1
  go_region_held3 (fun w' => w'.cell? ⟨w.heap.size, 0, none⟩ = some (.int .i64 an) ∧ w'.cell? ⟨w.heap.size, 1, none⟩ = some (.int .i64 ad) ∧ w'.cell? ⟨w.heap.size + 1, 0, none⟩ = some (.int .i64 bn) ∧ w'.cell? ⟨w.heap.size + 1, 1, none⟩ = some (.int .i64 bd))
    (first | (simp only [cell_a20, cell_a21]; assumption) | (go_keep; done) | (refine ⟨?_, ?_, ?_, ?_⟩ <;> (rw [Ext.cell _ _ (by first | (simp; done) | (simp; omega) | omega)]; simp [*]; done)))
    (first
      | (go_at_call 23; (with_reducible refine Calls.mono (C1.out _) ?_); rintro e _ ⟨sa, ta, rfl, hsa, hta, ⟨ya, rfl⟩⟩; have yas := ya.size; (try simp at yas); have yaa : w.heap.size < ya.val.heap.size := (by omega); have yab : w.heap.size + 1 < ya.val.heap.size := (by omega))
      | (go_at_call 23; (with_reducible refine Calls.mono (C2.out _) ?_); rintro e _ ⟨sb, tb, rfl, hsb, htb, ⟨yb, rfl⟩⟩; have ybs := yb.size; (try simp at ybs); have yba : w.heap.size < yb.val.heap.size := (by omega); have ybb : w.heap.size + 1 < yb.val.heap.size := (by omega))
      | (go_at_call 24; have G := Lib.hid (fun W hb1 => Turned_calls bn sb.a sb.len sb.cap tb.a tb.len tb.cap W (hsb.later hb1)); rw [HG.out] at G; (with_reducible refine Calls.mono (G.out _ ?_) ?_); (focus (repeat first | with_reducible exact Below.refl _ _ | with_reducible refine Below.setCell ?_ (by first | omega | (simp; done) | (simp; omega)) _ | with_reducible refine Below.alloc ?_ (by first | omega | (simp; done) | (simp; omega)) _ | with_reducible refine Below.drew ?_ | with_reducible refine Ext.on _ ?_ (by first | omega | (simp; done) | (simp; omega)))); rintro e _ ⟨rfl, ⟨yt, rfl⟩⟩; have yts := yt.size; (try simp at yts); have yta : w.heap.size < yt.val.heap.size := (by omega); have ytb : w.heap.size + 1 < yt.val.heap.size := (by omega); clear G)
      | (go_at_call 22; have G := Lib.hid (fun W hb1 hb2 => Plus_calls an (-bn) ad.natAbs bd.natAbs sa.a sa.len sa.cap ta.a ta.len ta.cap sb.a sb.len sb.cap tb.a tb.len tb.cap W (hsa.later hb1) (hta.later hb1) (NB.out _ _ (hsb.later hb2)) (htb.later hb2) K1.out K2.out K3.out K4.out K5.out); rw [EN.out, ED.out, HG.out] at G; (with_reducible refine Calls.mono (G.out _ ?_ ?_) ?_); (focus (repeat first | with_reducible exact Below.refl _ _ | with_reducible refine Below.setCell ?_ (by first | omega | (simp; done) | (simp; omega)) _ | with_reducible refine Below.alloc ?_ (by first | omega | (simp; done) | (simp; omega)) _ | with_reducible refine Below.drew ?_ | with_reducible refine Ext.on _ ?_ (by first | omega | (simp; done) | (simp; omega)))); (focus (repeat first | with_reducible exact Below.refl _ _ | with_reducible refine Below.setCell ?_ (by first | omega | (simp; done) | (simp; omega)) _ | with_reducible refine Below.alloc ?_ (by first | omega | (simp; done) | (simp; omega)) _ | with_reducible refine Below.drew ?_ | with_reducible refine Ext.on _ ?_ (by first | omega | (simp; done) | (simp; omega)))); rintro e _ ⟨sn, st, rfl, hsn, hst, ⟨yp, rfl⟩⟩; have yps := yp.size; (try simp at yps); have ypa : w.heap.size < yp.val.heap.size := (by omega); have ypb : w.heap.size + 1 < yp.val.heap.size := (by omega); clear G)
      | (go_at_call 21; have G := Lib.hid (fun W hb1 => Sign_calls (frI N D) sn.a sn.len sn.cap st.a st.len st.cap W (hsn.later hb1)); rw [HR.out] at G; (with_reducible refine Calls.mono (G.out _ ?_) ?_); (focus (repeat first | with_reducible exact Below.refl _ _ | with_reducible refine Below.setCell ?_ (by first | omega | (simp; done) | (simp; omega)) _ | with_reducible refine Below.alloc ?_ (by first | omega | (simp; done) | (simp; omega)) _ | with_reducible refine Below.drew ?_ | with_reducible refine Ext.on _ ?_ (by first | omega | (simp; done) | (simp; omega)))); rintro e _ ⟨rfl, ⟨yf, rfl⟩⟩; have yfs := yf.size; (try simp at yfs); have yfa : w.heap.size < yf.val.heap.size := (by omega); have yfb : w.heap.size + 1 < yf.val.heap.size := (by omega); clear G))
  have HB : Below w.heap.size w yf.val := by repeat first | with_reducible exact Below.refl _ _ | with_reducible refine Below.setCell ?_ (by first | omega | (simp; done) | (simp; omega)) _ | with_reducible refine Below.alloc ?_ (by first | omega | (simp; done) | (simp; omega)) _ | with_reducible refine Below.drew ?_ | with_reducible refine Ext.on _ ?_ (by first | omega | (simp; done) | (simp; omega))
  go_wp2
  go_ret
  exact ⟨rfl, Cls.of HB⟩
set_option maxHeartbeats 16000000 in
set_option maxRecDepth 20000 in
theorem rCompare_no (an ad bn bd : Int) (w : World) (h : (vaB an ad && vaB bn bd) = false) :
    Calls Tryd.prog 7 #[.agg #[.int .i64 an, .int .i64 ad], .agg #[.int .i64 bn, .int .i64 bd]] w fun e w' => e = .returned (.int .i64 0) ∧ Cls w w' := by
  have V1 := Lib.hid (fun W => rValid_calls an ad W)
  have V2 := Lib.hid (fun W => rValid_calls bn bd W)
  cases ha : vaB an ad with
  | false =>
    rw [ha] at V1
    clear V2 h ha
    go_enter Tryd.func7, Tryd.ntmps7
    go_wp2_with (go_at_call 20; (with_reducible refine (V1.out _).mono ?_); rintro e _ ⟨rfl, ⟨v1, rfl⟩⟩; have v1s := v1.size; (try simp at v1s); have v1a : w.heap.size < v1.val.heap.size := (by omega); have v1b : w.heap.size + 1 < v1.val.heap.size := (by omega))
    go_ret
    refine ⟨rfl, Cls.of ?_⟩
    repeat first | with_reducible exact Below.refl _ _ | with_reducible refine Below.setCell ?_ (by first | omega | (simp; done) | (simp; omega)) _ | with_reducible refine Below.alloc ?_ (by first | omega | (simp; done) | (simp; omega)) _ | with_reducible refine Below.drew ?_ | with_reducible refine Ext.on _ ?_ (by first | omega | (simp; done) | (simp; omega))
  | true =>
    rw [ha] at V1
    have hb : vaB bn bd = false := by simpa [ha] using h
    rw [hb] at V2
    clear h ha hb
    go_enter Tryd.func7, Tryd.ntmps7
    go_wp2_with (first | (go_at_call 20; (with_reducible refine (V1.out _).mono ?_); rintro e _ ⟨rfl, ⟨v1, rfl⟩⟩; have v1s := v1.size; (try simp at v1s); have v1a : w.heap.size < v1.val.heap.size := (by omega); have v1b : w.heap.size + 1 < v1.val.heap.size := (by omega)) | (go_at_call 20; (with_reducible refine (V2.out _).mono ?_); rintro e _ ⟨rfl, ⟨v2, rfl⟩⟩; have v2s := v2.size; (try simp at v2s); have v2a : w.heap.size < v2.val.heap.size := (by omega); have v2b : w.heap.size + 1 < v2.val.heap.size := (by omega)))
    go_ret
    refine ⟨rfl, Cls.of ?_⟩
    repeat first | with_reducible exact Below.refl _ _ | with_reducible refine Below.setCell ?_ (by first | omega | (simp; done) | (simp; omega)) _ | with_reducible refine Below.alloc ?_ (by first | omega | (simp; done) | (simp; omega)) _ | with_reducible refine Below.drew ?_ | with_reducible refine Ext.on _ ?_ (by first | omega | (simp; done) | (simp; omega))
theorem rCompare_calls (an ad bn bd : Int) (w : World) (h1 : In64 an) (h2 : In64 ad) (h3 : In64 bn) (h4 : In64 bd) :
    Calls Tryd.prog 7 #[.agg #[.int .i64 an, .int .i64 ad], .agg #[.int .i64 bn, .int .i64 bd]] w fun e w' => e = .returned (.int .i64 (cpF an ad bn bd)) ∧ Cls w w' := by
  cases h : (vaB an ad && vaB bn bd) with
  | false =>
    have e : cpF an ad bn bd = 0 := by
      unfold cpF
      cases ha : vaB an ad <;> cases hb : vaB bn bd <;> simp_all
    rw [e]
    exact rCompare_no an ad bn bd w h
  | true =>
    simp only [Bool.and_eq_true] at h
    rw [cpF_val h.1 h.2]
    obtain ⟨ra, _, _, _⟩ := vaB_rng h.1
    obtain ⟨rb, _, _, _⟩ := vaB_rng h.2
    refine rCompare_yes an ad bn bd w h1 h2 h3 h4 h.1 h.2 _ _ rfl rfl _ ?_
    rw [sign_fr _ (Nat.mul_pos (by omega) (by omega)), Int.neg_mul, cmpI_sub]
    rfl
end Go.Proofs.YtogjollefllajaaDoor
