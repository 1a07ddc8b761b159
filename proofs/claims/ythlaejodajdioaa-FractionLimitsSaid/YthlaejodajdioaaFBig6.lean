/-
  The reference's sums, differences and products of fractions.
-/
import Derived.Test.YthlaejodajdioaaFBig5
import Derived.Test.YthlaejodajdioaaFOps
set_option linter.unusedVariables false
namespace Go.Proofs.Ythlaejodajdioaa
open Go Go.RowKit Go.Deep
theorem new_at2e (w : World) (o o' : Obj) (cs : Array Value) (t : TypeId) : ((((w.alloc o).alloc o').alloc (.cells cs t)).drew).heap[w.heap.size + 1 + 1]? = some (.cells cs t) := new_at2 w o o' cs t
theorem new3_0 (w : World) (o o' o'' : Obj) : (((w.alloc o).alloc o').alloc o'').heap[w.heap.size]? = some o := by
  have := (((Below.refl (w.heap.size + 1) (w.alloc o)).alloc (by simp) o').alloc (by simp) o'').block w.heap.size (by omega)
  exact this.trans (heap_alloc_new w o)
theorem new3_1 (w : World) (o o' o'' : Obj) : (((w.alloc o).alloc o').alloc o'').heap[w.heap.size + 1]? = some o' := by
  have := ((Below.refl (w.heap.size + 1 + 1) ((w.alloc o).alloc o')).alloc (by simp) o'').block (w.heap.size + 1) (by omega)
  have h := heap_alloc_new (w.alloc o) o'
  exact this.trans (by simpa using h)
theorem cell_after2 (W : World) (T : Nat) (c : Addr) (v0 v1 : Value) (h : c.block ≠ T) : ((W.setCell ⟨T, 0, none⟩ v0).setCell ⟨T, 1, none⟩ v1).cell? c = W.cell? c := by
  refine World.cell?_of_block ?_
  rw [heap_setCell_other _ _ _ _ h, heap_setCell_other _ _ _ _ h]
theorem cell_a20 (W : World) (b off : Nat) (v0 v1 : Value) : ((W.setCell ⟨b + 1 + 1, 0, none⟩ v0).setCell ⟨b + 1 + 1, 1, none⟩ v1).cell? ⟨b, off, none⟩ = W.cell? ⟨b, off, none⟩ := cell_after2 _ _ _ _ _ (by show b ≠ b + 1 + 1; omega)
theorem cell_a21 (W : World) (b off : Nat) (v0 v1 : Value) : ((W.setCell ⟨b + 1 + 1, 0, none⟩ v0).setCell ⟨b + 1 + 1, 1, none⟩ v1).cell? ⟨b + 1, off, none⟩ = W.cell? ⟨b + 1, off, none⟩ := cell_after2 _ _ _ _ _ (by show b + 1 ≠ b + 1 + 1; omega)
theorem below2 {B : Nat} {w0 W : World} {T : Nat} (h : Below B w0 W) (hT : B ≤ T) (v0 v1 : Value) : Below B w0 ((W.setCell ⟨T, 0, none⟩ v0).setCell ⟨T, 1, none⟩ v1) := (h.setCell hT v0).setCell hT v1
theorem va_big {n d : Int} (h : vaB n d = true) : n.natAbs < 1000000000 ^ 3 ∧ d.natAbs < 1000000000 ^ 3 ∧ 0 < d.natAbs := by
  obtain ⟨h1, h2, h3, h4⟩ := vaB_rng h
  rw [show (1000000000 : Nat) ^ 3 = 1000000000000000000000000000 from rfl]
  omega
set_option maxHeartbeats 16000000 in
set_option maxRecDepth 20000 in
theorem rAdd_yes (an ad bn bd : Int) (w : World) (h1 : In64 an) (h2 : In64 ad) (h3 : In64 bn) (h4 : In64 bd) (ha : vaB an ad = true) (hb : vaB bn bd = true) (N : Int) (D : Nat) (rn rd re : Int) (eN : an * bd + bn * ad = N) (eD : ad.natAbs * bd.natAbs = D) (er : frN N D = rn) (ed : frD N D = rd) (ee : frE N D = re) :
    Calls Try.prog 8 #[.agg #[.int .i64 an, .int .i64 ad], .agg #[.int .i64 bn, .int .i64 bd]] w fun e w' => e = .returned (.tuple #[.agg #[.int .i64 rn, .int .i64 rd], .int .i64 re]) ∧ Cls w w' := by
  have V1 := Lib.hid (fun W => rValid_calls an ad W)
  have V2 := Lib.hid (fun W => rValid_calls bn bd W)
  rw [ha] at V1
  rw [hb] at V2
  have C1 := Lib.hid (fun W => Make_calls an ad W h1 h2)
  have C2 := Lib.hid (fun W => Make_calls bn bd W h3 h4)
  obtain ⟨p1, p2, p3⟩ := va_big ha
  obtain ⟨q1, q2, q3⟩ := va_big hb
  obtain ⟨ra, _, _, _⟩ := vaB_rng ha
  obtain ⟨rb, _, _, _⟩ := vaB_rng hb
  have K1 := Lib.hid p1
  have K2 := Lib.hid p2
  have K3 : Hid ((bn).natAbs < 1000000000 ^ 3) := Lib.hid (by simpa using q1)
  have K4 := Lib.hid q2
  have K5 := Lib.hid (Nat.mul_pos p3 q3)
  have EN : Hid (an * ((bd.natAbs : Nat) : Int) + bn * ((ad.natAbs : Nat) : Int) = N) := Lib.hid (by rw [← eN, show ((bd.natAbs : Nat) : Int) = bd by omega, show ((ad.natAbs : Nat) : Int) = ad by omega])
  have ED := Lib.hid eD
  have NB : Hid (∀ (W : World) (s : Sl), NumAt W s bn.natAbs → NumAt W s (-bn).natAbs) := Lib.hid fun W s h => by rwa [Int.natAbs_neg]
  have FN := Lib.hid er
  have FD := Lib.hid ed
  have FE := Lib.hid ee
  clear h1 h2 h3 h4 ha hb p1 p2 p3 q1 q2 q3 eN eD er ed ee ra rb
  go_enter Try.func8, Try.ntmps8
  go_wp2_with (first | (go_at_call 10; (with_reducible refine (V1.out _).mono ?_); rintro e _ ⟨rfl, ⟨v1, rfl⟩⟩; have v1s := v1.size; (try simp at v1s); have v1a : w.heap.size < v1.val.heap.size := (by omega); have v1b : w.heap.size + 1 < v1.val.heap.size := (by omega); have v1c : w.heap.size + 1 + 1 < v1.val.heap.size := (by omega)) | (go_at_call 10; (with_reducible refine (V2.out _).mono ?_); rintro e _ ⟨rfl, ⟨v2, rfl⟩⟩; have v2s := v2.size; (try simp at v2s); have v2a : w.heap.size < v2.val.heap.size := (by omega); have v2b : w.heap.size + 1 < v2.val.heap.size := (by omega); have v2c : w.heap.size + 1 + 1 < v2.val.heap.size := (by omega)))
  have B0 := (v2.below.block (w.heap.size) (by omega)).trans ((v1.below.block (w.heap.size) (by simp; omega)).trans (new3_0 w _ _ _))
  have B1 := (v2.below.block (w.heap.size + 1) (by omega)).trans ((v1.below.block (w.heap.size + 1) (by simp)).trans (new3_1 w _ _ _))
  obtain ⟨_, _, _, z0, z1⟩ := two_z B0
  obtain ⟨_, _, _, z2, z3⟩ := two_z B1
  clear B0 B1
  go_region_held3 (fun w' => w'.cell? ⟨w.heap.size, 0, none⟩ = some (.int .i64 an) ∧ w'.cell? ⟨w.heap.size, 1, none⟩ = some (.int .i64 ad) ∧ w'.cell? ⟨w.heap.size + 1, 0, none⟩ = some (.int .i64 bn) ∧ w'.cell? ⟨w.heap.size + 1, 1, none⟩ = some (.int .i64 bd))
    (first | (simp only [cell_a20, cell_a21]; assumption) | (go_keep; done) | (refine ⟨?_, ?_, ?_, ?_⟩ <;> (rw [Ext.cell _ _ (by first | (simp; done) | (simp; omega) | omega)]; simp [*]; done)))
    (first
      | (go_at_call 25; (with_reducible refine Calls.mono (C1.out _) ?_); rintro e _ ⟨sa, ta, rfl, hsa, hta, ⟨ya, rfl⟩⟩; have yas := ya.size; (try simp at yas); have yaa : w.heap.size < ya.val.heap.size := (by omega); have yab : w.heap.size + 1 < ya.val.heap.size := (by omega); have yac : w.heap.size + 1 + 1 < ya.val.heap.size := (by omega))
      | (go_at_call 25; (with_reducible refine Calls.mono (C2.out _) ?_); rintro e _ ⟨sb, tb, rfl, hsb, htb, ⟨yb, rfl⟩⟩; have ybs := yb.size; (try simp at ybs); have yba : w.heap.size < yb.val.heap.size := (by omega); have ybb : w.heap.size + 1 < yb.val.heap.size := (by omega); have ybc : w.heap.size + 1 + 1 < yb.val.heap.size := (by omega))
      | (go_at_call 24; have G := Lib.hid (fun W hb1 hb2 => Plus_calls an (bn) ad.natAbs bd.natAbs sa.a sa.len sa.cap ta.a ta.len ta.cap sb.a sb.len sb.cap tb.a tb.len tb.cap W (hsa.later hb1) (hta.later hb1) (hsb.later hb2) (htb.later hb2) K1.out K2.out K3.out K4.out K5.out); rw [EN.out, ED.out] at G; (with_reducible refine Calls.mono (G.out _ ?_ ?_) ?_); (focus (repeat first | with_reducible exact Below.refl _ _ | with_reducible refine Below.setCell ?_ (by first | omega | (simp; done) | (simp; omega)) _ | with_reducible refine Below.alloc ?_ (by first | omega | (simp; done) | (simp; omega)) _ | with_reducible refine Below.drew ?_ | with_reducible refine Ext.on _ ?_ (by first | omega | (simp; done) | (simp; omega)))); (focus (repeat first | with_reducible exact Below.refl _ _ | with_reducible refine Below.setCell ?_ (by first | omega | (simp; done) | (simp; omega)) _ | with_reducible refine Below.alloc ?_ (by first | omega | (simp; done) | (simp; omega)) _ | with_reducible refine Below.drew ?_ | with_reducible refine Ext.on _ ?_ (by first | omega | (simp; done) | (simp; omega)))); rintro e _ ⟨sn, st, rfl, hsn, hst, ⟨yp, rfl⟩⟩; have yps := yp.size; (try simp at yps); have ypa : w.heap.size < yp.val.heap.size := (by omega); have ypb : w.heap.size + 1 < yp.val.heap.size := (by omega); have ypc : w.heap.size + 1 + 1 < yp.val.heap.size := (by omega); clear G)
      | (go_at_call 23; have G := Lib.hid (fun W hb1 => Fit_calls N D sn.a sn.len sn.cap st.a st.len st.cap W (hsn.later hb1) (hst.later hb1)); rw [frV_parts, FN.out, FD.out, FE.out] at G; (with_reducible refine Calls.mono (G.out _ ?_) ?_); (focus (repeat first | with_reducible exact Below.refl _ _ | with_reducible refine Below.setCell ?_ (by first | omega | (simp; done) | (simp; omega)) _ | with_reducible refine Below.alloc ?_ (by first | omega | (simp; done) | (simp; omega)) _ | with_reducible refine Below.drew ?_ | with_reducible refine Ext.on _ ?_ (by first | omega | (simp; done) | (simp; omega)))); rintro e _ ⟨rfl, ⟨yf, rfl⟩⟩; have yfs := yf.size; (try simp at yfs); have yfa : w.heap.size < yf.val.heap.size := (by omega); have yfb : w.heap.size + 1 < yf.val.heap.size := (by omega); have yfc : w.heap.size + 1 + 1 < yf.val.heap.size := (by omega); have T0 : v1.val.heap[w.heap.size + 1 + 1]? = some (Obj.cells #[.int .i64 0, .int .i64 0] 23) := (v1.below.block (w.heap.size + 1 + 1) (by simp)).trans (new_at2 w _ _ _ _); have T1 : v2.val.heap[w.heap.size + 1 + 1]? = some (Obj.cells #[.int .i64 0, .int .i64 0] 23) := (v2.below.block (w.heap.size + 1 + 1) (by first | omega | (simp; omega))).trans T0; have T2 : ya.val.heap[w.heap.size + 1 + 1]? = some (Obj.cells #[.int .i64 0, .int .i64 0] 23) := (ya.below.block (w.heap.size + 1 + 1) (by first | omega | (simp; omega))).trans T1; have T3 : yb.val.heap[w.heap.size + 1 + 1]? = some (Obj.cells #[.int .i64 0, .int .i64 0] 23) := (yb.below.block (w.heap.size + 1 + 1) (by first | omega | (simp; omega))).trans T2; have T4 : yp.val.heap[w.heap.size + 1 + 1]? = some (Obj.cells #[.int .i64 0, .int .i64 0] 23) := (yp.below.block (w.heap.size + 1 + 1) (by first | omega | (simp; omega))).trans T3; have T5 : yf.val.heap[w.heap.size + 1 + 1]? = some (Obj.cells #[.int .i64 0, .int .i64 0] 23) := (yf.below.block (w.heap.size + 1 + 1) (by first | omega | (simp; omega))).trans T4; have HT := Lib.hid T5; obtain ⟨k0, k1, k2, k3, k4⟩ := two_z HT.out; clear G))
  have HB : Below w.heap.size w yf.val := by repeat first | with_reducible exact Below.refl _ _ | with_reducible refine Below.setCell ?_ (by first | omega | (simp; done) | (simp; omega)) _ | with_reducible refine Below.alloc ?_ (by first | omega | (simp; done) | (simp; omega)) _ | with_reducible refine Below.drew ?_ | with_reducible refine Ext.on _ ?_ (by first | omega | (simp; done) | (simp; omega))
  go_wp2
  refine ret_ex rfl ?_
  simp [results, Try.results8, go_sem, k3, k4]
  exact Cls.of (below2 HB (by omega) _ _)
set_option maxHeartbeats 16000000 in
set_option maxRecDepth 20000 in
theorem rSub_yes (an ad bn bd : Int) (w : World) (h1 : In64 an) (h2 : In64 ad) (h3 : In64 bn) (h4 : In64 bd) (ha : vaB an ad = true) (hb : vaB bn bd = true) (N : Int) (D : Nat) (rn rd re : Int) (eN : an * bd + -bn * ad = N) (eD : ad.natAbs * bd.natAbs = D) (er : frN N D = rn) (ed : frD N D = rd) (ee : frE N D = re) :
    Calls Try.prog 12 #[.agg #[.int .i64 an, .int .i64 ad], .agg #[.int .i64 bn, .int .i64 bd]] w fun e w' => e = .returned (.tuple #[.agg #[.int .i64 rn, .int .i64 rd], .int .i64 re]) ∧ Cls w w' := by
  have V1 := Lib.hid (fun W => rValid_calls an ad W)
  have V2 := Lib.hid (fun W => rValid_calls bn bd W)
  rw [ha] at V1
  rw [hb] at V2
  have C1 := Lib.hid (fun W => Make_calls an ad W h1 h2)
  have C2 := Lib.hid (fun W => Make_calls bn bd W h3 h4)
  obtain ⟨p1, p2, p3⟩ := va_big ha
  obtain ⟨q1, q2, q3⟩ := va_big hb
  obtain ⟨ra, _, _, _⟩ := vaB_rng ha
  obtain ⟨rb, _, _, _⟩ := vaB_rng hb
  have K1 := Lib.hid p1
  have K2 := Lib.hid p2
  have K3 : Hid ((-bn).natAbs < 1000000000 ^ 3) := Lib.hid (by simpa using q1)
  have K4 := Lib.hid q2
  have K5 := Lib.hid (Nat.mul_pos p3 q3)
  have EN : Hid (an * ((bd.natAbs : Nat) : Int) + -bn * ((ad.natAbs : Nat) : Int) = N) := Lib.hid (by rw [← eN, show ((bd.natAbs : Nat) : Int) = bd by omega, show ((ad.natAbs : Nat) : Int) = ad by omega])
  have ED := Lib.hid eD
  have NB : Hid (∀ (W : World) (s : Sl), NumAt W s bn.natAbs → NumAt W s (-bn).natAbs) := Lib.hid fun W s h => by rwa [Int.natAbs_neg]
  obtain ⟨gb, hgb⟩ : ∃ gb, decide (-bn < 0) = gb := ⟨_, rfl⟩
  have HG := Lib.hid hgb
  clear hgb
  have FN := Lib.hid er
  have FD := Lib.hid ed
  have FE := Lib.hid ee
  clear h1 h2 h3 h4 ha hb p1 p2 p3 q1 q2 q3 eN eD er ed ee ra rb
  go_enter Try.func12, Try.ntmps12
  go_wp2_with (first | (go_at_call 10; (with_reducible refine (V1.out _).mono ?_); rintro e _ ⟨rfl, ⟨v1, rfl⟩⟩; have v1s := v1.size; (try simp at v1s); have v1a : w.heap.size < v1.val.heap.size := (by omega); have v1b : w.heap.size + 1 < v1.val.heap.size := (by omega); have v1c : w.heap.size + 1 + 1 < v1.val.heap.size := (by omega)) | (go_at_call 10; (with_reducible refine (V2.out _).mono ?_); rintro e _ ⟨rfl, ⟨v2, rfl⟩⟩; have v2s := v2.size; (try simp at v2s); have v2a : w.heap.size < v2.val.heap.size := (by omega); have v2b : w.heap.size + 1 < v2.val.heap.size := (by omega); have v2c : w.heap.size + 1 + 1 < v2.val.heap.size := (by omega)))
  have B0 := (v2.below.block (w.heap.size) (by omega)).trans ((v1.below.block (w.heap.size) (by simp; omega)).trans (new3_0 w _ _ _))
  have B1 := (v2.below.block (w.heap.size + 1) (by omega)).trans ((v1.below.block (w.heap.size + 1) (by simp)).trans (new3_1 w _ _ _))
  obtain ⟨_, _, _, z0, z1⟩ := two_z B0
  obtain ⟨_, _, _, z2, z3⟩ := two_z B1
  clear B0 B1
  go_region_held3 (fun w' => w'.cell? ⟨w.heap.size, 0, none⟩ = some (.int .i64 an) ∧ w'.cell? ⟨w.heap.size, 1, none⟩ = some (.int .i64 ad) ∧ w'.cell? ⟨w.heap.size + 1, 0, none⟩ = some (.int .i64 bn) ∧ w'.cell? ⟨w.heap.size + 1, 1, none⟩ = some (.int .i64 bd))
    (first | (simp only [cell_a20, cell_a21]; assumption) | (go_keep; done) | (refine ⟨?_, ?_, ?_, ?_⟩ <;> (rw [Ext.cell _ _ (by first | (simp; done) | (simp; omega) | omega)]; simp [*]; done)))
    (first
      | (go_at_call 25; (with_reducible refine Calls.mono (C1.out _) ?_); rintro e _ ⟨sa, ta, rfl, hsa, hta, ⟨ya, rfl⟩⟩; have yas := ya.size; (try simp at yas); have yaa : w.heap.size < ya.val.heap.size := (by omega); have yab : w.heap.size + 1 < ya.val.heap.size := (by omega); have yac : w.heap.size + 1 + 1 < ya.val.heap.size := (by omega))
      | (go_at_call 25; (with_reducible refine Calls.mono (C2.out _) ?_); rintro e _ ⟨sb, tb, rfl, hsb, htb, ⟨yb, rfl⟩⟩; have ybs := yb.size; (try simp at ybs); have yba : w.heap.size < yb.val.heap.size := (by omega); have ybb : w.heap.size + 1 < yb.val.heap.size := (by omega); have ybc : w.heap.size + 1 + 1 < yb.val.heap.size := (by omega))
      | (go_at_call 33; have G := Lib.hid (fun W hb1 => Turned_calls bn sb.a sb.len sb.cap tb.a tb.len tb.cap W (hsb.later hb1)); rw [HG.out] at G; (with_reducible refine Calls.mono (G.out _ ?_) ?_); (focus (repeat first | with_reducible exact Below.refl _ _ | with_reducible refine Below.setCell ?_ (by first | omega | (simp; done) | (simp; omega)) _ | with_reducible refine Below.alloc ?_ (by first | omega | (simp; done) | (simp; omega)) _ | with_reducible refine Below.drew ?_ | with_reducible refine Ext.on _ ?_ (by first | omega | (simp; done) | (simp; omega)))); rintro e _ ⟨rfl, ⟨yt, rfl⟩⟩; have yts := yt.size; (try simp at yts); have yta : w.heap.size < yt.val.heap.size := (by omega); have ytb : w.heap.size + 1 < yt.val.heap.size := (by omega); have ytc : w.heap.size + 1 + 1 < yt.val.heap.size := (by omega); clear G)
      | (go_at_call 24; have G := Lib.hid (fun W hb1 hb2 => Plus_calls an (-bn) ad.natAbs bd.natAbs sa.a sa.len sa.cap ta.a ta.len ta.cap sb.a sb.len sb.cap tb.a tb.len tb.cap W (hsa.later hb1) (hta.later hb1) (NB.out _ _ (hsb.later hb2)) (htb.later hb2) K1.out K2.out K3.out K4.out K5.out); rw [EN.out, ED.out, HG.out] at G; (with_reducible refine Calls.mono (G.out _ ?_ ?_) ?_); (focus (repeat first | with_reducible exact Below.refl _ _ | with_reducible refine Below.setCell ?_ (by first | omega | (simp; done) | (simp; omega)) _ | with_reducible refine Below.alloc ?_ (by first | omega | (simp; done) | (simp; omega)) _ | with_reducible refine Below.drew ?_ | with_reducible refine Ext.on _ ?_ (by first | omega | (simp; done) | (simp; omega)))); (focus (repeat first | with_reducible exact Below.refl _ _ | with_reducible refine Below.setCell ?_ (by first | omega | (simp; done) | (simp; omega)) _ | with_reducible refine Below.alloc ?_ (by first | omega | (simp; done) | (simp; omega)) _ | with_reducible refine Below.drew ?_ | with_reducible refine Ext.on _ ?_ (by first | omega | (simp; done) | (simp; omega)))); rintro e _ ⟨sn, st, rfl, hsn, hst, ⟨yp, rfl⟩⟩; have yps := yp.size; (try simp at yps); have ypa : w.heap.size < yp.val.heap.size := (by omega); have ypb : w.heap.size + 1 < yp.val.heap.size := (by omega); have ypc : w.heap.size + 1 + 1 < yp.val.heap.size := (by omega); clear G)
      | (go_at_call 23; have G := Lib.hid (fun W hb1 => Fit_calls N D sn.a sn.len sn.cap st.a st.len st.cap W (hsn.later hb1) (hst.later hb1)); rw [frV_parts, FN.out, FD.out, FE.out] at G; (with_reducible refine Calls.mono (G.out _ ?_) ?_); (focus (repeat first | with_reducible exact Below.refl _ _ | with_reducible refine Below.setCell ?_ (by first | omega | (simp; done) | (simp; omega)) _ | with_reducible refine Below.alloc ?_ (by first | omega | (simp; done) | (simp; omega)) _ | with_reducible refine Below.drew ?_ | with_reducible refine Ext.on _ ?_ (by first | omega | (simp; done) | (simp; omega)))); rintro e _ ⟨rfl, ⟨yf, rfl⟩⟩; have yfs := yf.size; (try simp at yfs); have yfa : w.heap.size < yf.val.heap.size := (by omega); have yfb : w.heap.size + 1 < yf.val.heap.size := (by omega); have yfc : w.heap.size + 1 + 1 < yf.val.heap.size := (by omega); have T0 : v1.val.heap[w.heap.size + 1 + 1]? = some (Obj.cells #[.int .i64 0, .int .i64 0] 23) := (v1.below.block (w.heap.size + 1 + 1) (by simp)).trans (new_at2 w _ _ _ _); have T1 : v2.val.heap[w.heap.size + 1 + 1]? = some (Obj.cells #[.int .i64 0, .int .i64 0] 23) := (v2.below.block (w.heap.size + 1 + 1) (by first | omega | (simp; omega))).trans T0; have T2 : ya.val.heap[w.heap.size + 1 + 1]? = some (Obj.cells #[.int .i64 0, .int .i64 0] 23) := (ya.below.block (w.heap.size + 1 + 1) (by first | omega | (simp; omega))).trans T1; have T3 : yb.val.heap[w.heap.size + 1 + 1]? = some (Obj.cells #[.int .i64 0, .int .i64 0] 23) := (yb.below.block (w.heap.size + 1 + 1) (by first | omega | (simp; omega))).trans T2; have T4 : yt.val.heap[w.heap.size + 1 + 1]? = some (Obj.cells #[.int .i64 0, .int .i64 0] 23) := (yt.below.block (w.heap.size + 1 + 1) (by first | omega | (simp; omega))).trans T3; have T5 : yp.val.heap[w.heap.size + 1 + 1]? = some (Obj.cells #[.int .i64 0, .int .i64 0] 23) := (yp.below.block (w.heap.size + 1 + 1) (by first | omega | (simp; omega))).trans T4; have T6 : yf.val.heap[w.heap.size + 1 + 1]? = some (Obj.cells #[.int .i64 0, .int .i64 0] 23) := (yf.below.block (w.heap.size + 1 + 1) (by first | omega | (simp; omega))).trans T5; have HT := Lib.hid T6; obtain ⟨k0, k1, k2, k3, k4⟩ := two_z HT.out; clear G))
  have HB : Below w.heap.size w yf.val := by repeat first | with_reducible exact Below.refl _ _ | with_reducible refine Below.setCell ?_ (by first | omega | (simp; done) | (simp; omega)) _ | with_reducible refine Below.alloc ?_ (by first | omega | (simp; done) | (simp; omega)) _ | with_reducible refine Below.drew ?_ | with_reducible refine Ext.on _ ?_ (by first | omega | (simp; done) | (simp; omega))
  go_wp2
  refine ret_ex rfl ?_
  simp [results, Try.results12, go_sem, k3, k4]
  exact Cls.of (below2 HB (by omega) _ _)
set_option maxHeartbeats 16000000 in
set_option maxRecDepth 20000 in
theorem rMul_yes (an ad bn bd : Int) (w : World) (h1 : In64 an) (h2 : In64 ad) (h3 : In64 bn) (h4 : In64 bd) (ha : vaB an ad = true) (hb : vaB bn bd = true) (N : Int) (D : Nat) (rn rd re : Int) (eN : an * bn = N) (eD : ad.natAbs * bd.natAbs = D) (er : frN N D = rn) (ed : frD N D = rd) (ee : frE N D = re) :
    Calls Try.prog 14 #[.agg #[.int .i64 an, .int .i64 ad], .agg #[.int .i64 bn, .int .i64 bd]] w fun e w' => e = .returned (.tuple #[.agg #[.int .i64 rn, .int .i64 rd], .int .i64 re]) ∧ Cls w w' := by
  have V1 := Lib.hid (fun W => rValid_calls an ad W)
  have V2 := Lib.hid (fun W => rValid_calls bn bd W)
  rw [ha] at V1
  rw [hb] at V2
  have C1 := Lib.hid (fun W => Make_calls an ad W h1 h2)
  have C2 := Lib.hid (fun W => Make_calls bn bd W h3 h4)
  obtain ⟨p1, p2, p3⟩ := va_big ha
  obtain ⟨q1, q2, q3⟩ := va_big hb
  obtain ⟨ra, _, _, _⟩ := vaB_rng ha
  obtain ⟨rb, _, _, _⟩ := vaB_rng hb
  have K1 := Lib.hid p1
  have K2 := Lib.hid p2
  have K3 : Hid ((bn).natAbs < 1000000000 ^ 3) := Lib.hid (by simpa using q1)
  have K4 := Lib.hid q2
  have K5 := Lib.hid (Nat.mul_pos p3 q3)
  have EN : Hid (an * bn = N) := Lib.hid (by rw [← eN])
  have ED := Lib.hid eD
  have NB : Hid (∀ (W : World) (s : Sl), NumAt W s bn.natAbs → NumAt W s (-bn).natAbs) := Lib.hid fun W s h => by rwa [Int.natAbs_neg]
  have FN := Lib.hid er
  have FD := Lib.hid ed
  have FE := Lib.hid ee
  clear h1 h2 h3 h4 ha hb p1 p2 p3 q1 q2 q3 eN eD er ed ee ra rb
  go_enter Try.func14, Try.ntmps14
  go_wp2_with (first | (go_at_call 10; (with_reducible refine (V1.out _).mono ?_); rintro e _ ⟨rfl, ⟨v1, rfl⟩⟩; have v1s := v1.size; (try simp at v1s); have v1a : w.heap.size < v1.val.heap.size := (by omega); have v1b : w.heap.size + 1 < v1.val.heap.size := (by omega); have v1c : w.heap.size + 1 + 1 < v1.val.heap.size := (by omega)) | (go_at_call 10; (with_reducible refine (V2.out _).mono ?_); rintro e _ ⟨rfl, ⟨v2, rfl⟩⟩; have v2s := v2.size; (try simp at v2s); have v2a : w.heap.size < v2.val.heap.size := (by omega); have v2b : w.heap.size + 1 < v2.val.heap.size := (by omega); have v2c : w.heap.size + 1 + 1 < v2.val.heap.size := (by omega)))
  have B0 := (v2.below.block (w.heap.size) (by omega)).trans ((v1.below.block (w.heap.size) (by simp; omega)).trans (new3_0 w _ _ _))
  have B1 := (v2.below.block (w.heap.size + 1) (by omega)).trans ((v1.below.block (w.heap.size + 1) (by simp)).trans (new3_1 w _ _ _))
  obtain ⟨_, _, _, z0, z1⟩ := two_z B0
  obtain ⟨_, _, _, z2, z3⟩ := two_z B1
  clear B0 B1
  go_region_held3 (fun w' => w'.cell? ⟨w.heap.size, 0, none⟩ = some (.int .i64 an) ∧ w'.cell? ⟨w.heap.size, 1, none⟩ = some (.int .i64 ad) ∧ w'.cell? ⟨w.heap.size + 1, 0, none⟩ = some (.int .i64 bn) ∧ w'.cell? ⟨w.heap.size + 1, 1, none⟩ = some (.int .i64 bd))
    (first | (simp only [cell_a20, cell_a21]; assumption) | (go_keep; done) | (refine ⟨?_, ?_, ?_, ?_⟩ <;> (rw [Ext.cell _ _ (by first | (simp; done) | (simp; omega) | omega)]; simp [*]; done)))
    (first
      | (go_at_call 25; (with_reducible refine Calls.mono (C1.out _) ?_); rintro e _ ⟨sa, ta, rfl, hsa, hta, ⟨ya, rfl⟩⟩; have yas := ya.size; (try simp at yas); have yaa : w.heap.size < ya.val.heap.size := (by omega); have yab : w.heap.size + 1 < ya.val.heap.size := (by omega); have yac : w.heap.size + 1 + 1 < ya.val.heap.size := (by omega))
      | (go_at_call 25; (with_reducible refine Calls.mono (C2.out _) ?_); rintro e _ ⟨sb, tb, rfl, hsb, htb, ⟨yb, rfl⟩⟩; have ybs := yb.size; (try simp at ybs); have yba : w.heap.size < yb.val.heap.size := (by omega); have ybb : w.heap.size + 1 < yb.val.heap.size := (by omega); have ybc : w.heap.size + 1 + 1 < yb.val.heap.size := (by omega))
      | (go_at_call 35; have G := Lib.hid (fun W hb1 hb2 => Times_calls an (bn) ad.natAbs bd.natAbs sa.a sa.len sa.cap ta.a ta.len ta.cap sb.a sb.len sb.cap tb.a tb.len tb.cap W (hsa.later hb1) (hta.later hb1) (hsb.later hb2) (htb.later hb2) K1.out K2.out K3.out K4.out K5.out); rw [EN.out, ED.out] at G; (with_reducible refine Calls.mono (G.out _ ?_ ?_) ?_); (focus (repeat first | with_reducible exact Below.refl _ _ | with_reducible refine Below.setCell ?_ (by first | omega | (simp; done) | (simp; omega)) _ | with_reducible refine Below.alloc ?_ (by first | omega | (simp; done) | (simp; omega)) _ | with_reducible refine Below.drew ?_ | with_reducible refine Ext.on _ ?_ (by first | omega | (simp; done) | (simp; omega)))); (focus (repeat first | with_reducible exact Below.refl _ _ | with_reducible refine Below.setCell ?_ (by first | omega | (simp; done) | (simp; omega)) _ | with_reducible refine Below.alloc ?_ (by first | omega | (simp; done) | (simp; omega)) _ | with_reducible refine Below.drew ?_ | with_reducible refine Ext.on _ ?_ (by first | omega | (simp; done) | (simp; omega)))); rintro e _ ⟨sn, st, rfl, hsn, hst, ⟨yp, rfl⟩⟩; have yps := yp.size; (try simp at yps); have ypa : w.heap.size < yp.val.heap.size := (by omega); have ypb : w.heap.size + 1 < yp.val.heap.size := (by omega); have ypc : w.heap.size + 1 + 1 < yp.val.heap.size := (by omega); clear G)
      | (go_at_call 23; have G := Lib.hid (fun W hb1 => Fit_calls N D sn.a sn.len sn.cap st.a st.len st.cap W (hsn.later hb1) (hst.later hb1)); rw [frV_parts, FN.out, FD.out, FE.out] at G; (with_reducible refine Calls.mono (G.out _ ?_) ?_); (focus (repeat first | with_reducible exact Below.refl _ _ | with_reducible refine Below.setCell ?_ (by first | omega | (simp; done) | (simp; omega)) _ | with_reducible refine Below.alloc ?_ (by first | omega | (simp; done) | (simp; omega)) _ | with_reducible refine Below.drew ?_ | with_reducible refine Ext.on _ ?_ (by first | omega | (simp; done) | (simp; omega)))); rintro e _ ⟨rfl, ⟨yf, rfl⟩⟩; have yfs := yf.size; (try simp at yfs); have yfa : w.heap.size < yf.val.heap.size := (by omega); have yfb : w.heap.size + 1 < yf.val.heap.size := (by omega); have yfc : w.heap.size + 1 + 1 < yf.val.heap.size := (by omega); have T0 : v1.val.heap[w.heap.size + 1 + 1]? = some (Obj.cells #[.int .i64 0, .int .i64 0] 23) := (v1.below.block (w.heap.size + 1 + 1) (by simp)).trans (new_at2 w _ _ _ _); have T1 : v2.val.heap[w.heap.size + 1 + 1]? = some (Obj.cells #[.int .i64 0, .int .i64 0] 23) := (v2.below.block (w.heap.size + 1 + 1) (by first | omega | (simp; omega))).trans T0; have T2 : ya.val.heap[w.heap.size + 1 + 1]? = some (Obj.cells #[.int .i64 0, .int .i64 0] 23) := (ya.below.block (w.heap.size + 1 + 1) (by first | omega | (simp; omega))).trans T1; have T3 : yb.val.heap[w.heap.size + 1 + 1]? = some (Obj.cells #[.int .i64 0, .int .i64 0] 23) := (yb.below.block (w.heap.size + 1 + 1) (by first | omega | (simp; omega))).trans T2; have T4 : yp.val.heap[w.heap.size + 1 + 1]? = some (Obj.cells #[.int .i64 0, .int .i64 0] 23) := (yp.below.block (w.heap.size + 1 + 1) (by first | omega | (simp; omega))).trans T3; have T5 : yf.val.heap[w.heap.size + 1 + 1]? = some (Obj.cells #[.int .i64 0, .int .i64 0] 23) := (yf.below.block (w.heap.size + 1 + 1) (by first | omega | (simp; omega))).trans T4; have HT := Lib.hid T5; obtain ⟨k0, k1, k2, k3, k4⟩ := two_z HT.out; clear G))
  have HB : Below w.heap.size w yf.val := by repeat first | with_reducible exact Below.refl _ _ | with_reducible refine Below.setCell ?_ (by first | omega | (simp; done) | (simp; omega)) _ | with_reducible refine Below.alloc ?_ (by first | omega | (simp; done) | (simp; omega)) _ | with_reducible refine Below.drew ?_ | with_reducible refine Ext.on _ ?_ (by first | omega | (simp; done) | (simp; omega))
  go_wp2
  refine ret_ex rfl ?_
  simp [results, Try.results14, go_sem, k3, k4]
  exact Cls.of (below2 HB (by omega) _ _)
set_option maxHeartbeats 16000000 in
set_option maxRecDepth 20000 in
theorem rDiv_yes (an ad bn bd : Int) (w : World) (h1 : In64 an) (h2 : In64 ad) (h3 : In64 bn) (h4 : In64 bd) (ha : vaB an ad = true) (hb : vaB bn bd = true) (hn : (bn == 0) = false) (N : Int) (D : Nat) (rn rd re : Int) (eN : an * (if bn < 0 then -bd else bd) = N) (eD : ad.natAbs * bn.natAbs = D) (er : frN N D = rn) (ed : frD N D = rd) (ee : frE N D = re) :
    Calls Try.prog 16 #[.agg #[.int .i64 an, .int .i64 ad], .agg #[.int .i64 bn, .int .i64 bd]] w fun e w' => e = .returned (.tuple #[.agg #[.int .i64 rn, .int .i64 rd], .int .i64 re]) ∧ Cls w w' := by
  have V1 := Lib.hid (fun W => rValid_calls an ad W)
  have V2 := Lib.hid (fun W => rValid_calls bn bd W)
  rw [ha] at V1
  rw [hb] at V2
  have C1 := Lib.hid (fun W => of_calls an W h1.1 h1.2)
  have C2 := Lib.hid (fun W => of_calls bd W h4.1 h4.2)
  have C3 := Lib.hid (fun W => of_calls ad W h2.1 h2.2)
  have C4 := Lib.hid (fun W => of_calls bn W h3.1 h3.2)
  obtain ⟨p1, p2, p3⟩ := va_big ha
  obtain ⟨q1, q2, q3⟩ := va_big hb
  obtain ⟨ra, _, _, _⟩ := vaB_rng ha
  obtain ⟨rb, _, _, _⟩ := vaB_rng hb
  have hn0 : bn ≠ 0 := by simpa using hn
  have K5 : Hid (0 < ad.natAbs * bn.natAbs) := Lib.hid (Nat.mul_pos p3 (by omega))
  have EN : Hid (sg (!(decide (an < 0) == decide (bn < 0))) (an.natAbs * bd.natAbs) = N) := Lib.hid (by rw [← eN]; exact sg_div an bd bn (by omega))
  have ED := Lib.hid eD
  have L1 : Hid (∀ (s : Sl) (W : World), NumAt W s (an.natAbs) → s.len ≤ 500) := Lib.hid fun s W h => lt_len h p1 (by omega)
  have L2 : Hid (∀ (s : Sl) (W : World), NumAt W s (bd.natAbs) → s.len ≤ 500) := Lib.hid fun s W h => lt_len h q2 (by omega)
  have L3 : Hid (∀ (s : Sl) (W : World), NumAt W s (ad.natAbs) → s.len ≤ 500) := Lib.hid fun s W h => lt_len h p2 (by omega)
  have L4 : Hid (∀ (s : Sl) (W : World), NumAt W s (bn.natAbs) → s.len ≤ 500) := Lib.hid fun s W h => lt_len h q1 (by omega)
  have LX : Hid (∀ (s : Sl) (W : World), NumAt W s (an.natAbs * bd.natAbs) → s.len ≤ 500) := Lib.hid fun s W h => lt_len h (mul_lt_pow p1 q2) (by omega)
  have LY : Hid (∀ (s : Sl) (W : World), NumAt W s (ad.natAbs * bn.natAbs) → s.len ≤ 500) := Lib.hid fun s W h => lt_len h (mul_lt_pow p2 q1) (by omega)
  have FN := Lib.hid er
  have FD := Lib.hid ed
  have FE := Lib.hid ee
  clear h1 h2 h3 h4 ha hb p1 p2 p3 q1 q2 q3 eN eD er ed ee ra rb hn0
  go_enter Try.func16, Try.ntmps16
  go_wp2_with (first | (go_at_call 10; (with_reducible refine (V1.out _).mono ?_); rintro e _ ⟨rfl, ⟨v1, rfl⟩⟩; have v1s := v1.size; (try simp at v1s); have v1a : w.heap.size < v1.val.heap.size := (by omega); have v1b : w.heap.size + 1 < v1.val.heap.size := (by omega); have v1c : w.heap.size + 1 + 1 < v1.val.heap.size := (by omega)) | (go_at_call 10; (with_reducible refine (V2.out _).mono ?_); rintro e _ ⟨rfl, ⟨v2, rfl⟩⟩; have v2s := v2.size; (try simp at v2s); have v2a : w.heap.size < v2.val.heap.size := (by omega); have v2b : w.heap.size + 1 < v2.val.heap.size := (by omega); have v2c : w.heap.size + 1 + 1 < v2.val.heap.size := (by omega)))
  have B0 := (v2.below.block (w.heap.size) (by omega)).trans ((v1.below.block (w.heap.size) (by simp; omega)).trans (new3_0 w _ _ _))
  have B1 := (v2.below.block (w.heap.size + 1) (by omega)).trans ((v1.below.block (w.heap.size + 1) (by simp)).trans (new3_1 w _ _ _))
  obtain ⟨_, _, _, z0, z1⟩ := two_z B0
  obtain ⟨_, _, _, z2, z3⟩ := two_z B1
  clear B0 B1
  go_region_held3 (fun w' => w'.cell? ⟨w.heap.size, 0, none⟩ = some (.int .i64 an) ∧ w'.cell? ⟨w.heap.size, 1, none⟩ = some (.int .i64 ad) ∧ w'.cell? ⟨w.heap.size + 1, 0, none⟩ = some (.int .i64 bn) ∧ w'.cell? ⟨w.heap.size + 1, 1, none⟩ = some (.int .i64 bd))
    (first | (simp only [cell_a20, cell_a21]; assumption) | (go_keep; done) | (refine ⟨?_, ?_, ?_, ?_⟩ <;> (rw [Ext.cell _ _ (by first | (simp; done) | (simp; omega) | omega)]; simp [*]; done)))
    (first
      | (go_at_call 30; (with_reducible refine Calls.mono (C1.out _) ?_); rintro e _ ⟨oa, rfl, hoa, ⟨y1, rfl⟩⟩; have y1s := y1.size; (try simp at y1s); have y1a : w.heap.size < y1.val.heap.size := (by omega); have y1b : w.heap.size + 1 < y1.val.heap.size := (by omega); have y1c : w.heap.size + 1 + 1 < y1.val.heap.size := (by omega))
      | (go_at_call 30; (with_reducible refine Calls.mono (C2.out _) ?_); rintro e _ ⟨ob, rfl, hob, ⟨y2, rfl⟩⟩; have y2s := y2.size; (try simp at y2s); have y2a : w.heap.size < y2.val.heap.size := (by omega); have y2b : w.heap.size + 1 < y2.val.heap.size := (by omega); have y2c : w.heap.size + 1 + 1 < y2.val.heap.size := (by omega))
      | (go_at_call 30; (with_reducible refine Calls.mono (C3.out _) ?_); rintro e _ ⟨oc, rfl, hoc, ⟨y4, rfl⟩⟩; have y4s := y4.size; (try simp at y4s); have y4a : w.heap.size < y4.val.heap.size := (by omega); have y4b : w.heap.size + 1 < y4.val.heap.size := (by omega); have y4c : w.heap.size + 1 + 1 < y4.val.heap.size := (by omega))
      | (go_at_call 30; (with_reducible refine Calls.mono (C4.out _) ?_); rintro e _ ⟨od, rfl, hod, ⟨y5, rfl⟩⟩; have y5s := y5.size; (try simp at y5s); have y5a : w.heap.size < y5.val.heap.size := (by omega); have y5b : w.heap.size + 1 < y5.val.heap.size := (by omega); have y5c : w.heap.size + 1 + 1 < y5.val.heap.size := (by omega))
      | (go_at_call 39; have G := Lib.hid (fun W hb1 hb2 => mul_calls oa.a oa.len oa.cap ob.a ob.len ob.cap an.natAbs bd.natAbs W (hoa.later hb1) (hob.later hb2) (L1.out _ _ hoa) (L2.out _ _ hob)); (with_reducible refine Calls.mono (G.out _ ?_ ?_) ?_); (focus (repeat first | with_reducible exact Below.refl _ _ | with_reducible refine Below.setCell ?_ (by first | omega | (simp; done) | (simp; omega)) _ | with_reducible refine Below.alloc ?_ (by first | omega | (simp; done) | (simp; omega)) _ | with_reducible refine Below.drew ?_ | with_reducible refine Ext.on _ ?_ (by first | omega | (simp; done) | (simp; omega)))); (focus (repeat first | with_reducible exact Below.refl _ _ | with_reducible refine Below.setCell ?_ (by first | omega | (simp; done) | (simp; omega)) _ | with_reducible refine Below.alloc ?_ (by first | omega | (simp; done) | (simp; omega)) _ | with_reducible refine Below.drew ?_ | with_reducible refine Ext.on _ ?_ (by first | omega | (simp; done) | (simp; omega)))); rintro e _ ⟨mx, rfl, hmx, ⟨y3, rfl⟩⟩; have y3s := y3.size; (try simp at y3s); have y3a : w.heap.size < y3.val.heap.size := (by omega); have y3b : w.heap.size + 1 < y3.val.heap.size := (by omega); have y3c : w.heap.size + 1 + 1 < y3.val.heap.size := (by omega); clear G)
      | (go_at_call 39; have G := Lib.hid (fun W hb1 hb2 => mul_calls oc.a oc.len oc.cap od.a od.len od.cap ad.natAbs bn.natAbs W (hoc.later hb1) (hod.later hb2) (L3.out _ _ hoc) (L4.out _ _ hod)); (with_reducible refine Calls.mono (G.out _ ?_ ?_) ?_); (focus (repeat first | with_reducible exact Below.refl _ _ | with_reducible refine Below.setCell ?_ (by first | omega | (simp; done) | (simp; omega)) _ | with_reducible refine Below.alloc ?_ (by first | omega | (simp; done) | (simp; omega)) _ | with_reducible refine Below.drew ?_ | with_reducible refine Ext.on _ ?_ (by first | omega | (simp; done) | (simp; omega)))); (focus (repeat first | with_reducible exact Below.refl _ _ | with_reducible refine Below.setCell ?_ (by first | omega | (simp; done) | (simp; omega)) _ | with_reducible refine Below.alloc ?_ (by first | omega | (simp; done) | (simp; omega)) _ | with_reducible refine Below.drew ?_ | with_reducible refine Ext.on _ ?_ (by first | omega | (simp; done) | (simp; omega)))); rintro e _ ⟨my, rfl, hmy, ⟨y6, rfl⟩⟩; have y6s := y6.size; (try simp at y6s); have y6a : w.heap.size < y6.val.heap.size := (by omega); have y6b : w.heap.size + 1 < y6.val.heap.size := (by omega); have y6c : w.heap.size + 1 + 1 < y6.val.heap.size := (by omega); clear G)
      | (go_at_call 38; have G := Lib.hid (fun W hb1 hb2 => lowest_calls (!(decide (an < 0) == decide (bn < 0))) mx.a mx.len mx.cap my.a my.len my.cap _ _ W (hmx.later hb1) (hmy.later hb2) (LX.out _ _ hmx) (LY.out _ _ hmy) K5.out); rw [EN.out, ED.out] at G; (with_reducible refine Calls.mono (G.out _ ?_ ?_) ?_); (focus (repeat first | with_reducible exact Below.refl _ _ | with_reducible refine Below.setCell ?_ (by first | omega | (simp; done) | (simp; omega)) _ | with_reducible refine Below.alloc ?_ (by first | omega | (simp; done) | (simp; omega)) _ | with_reducible refine Below.drew ?_ | with_reducible refine Ext.on _ ?_ (by first | omega | (simp; done) | (simp; omega)))); (focus (repeat first | with_reducible exact Below.refl _ _ | with_reducible refine Below.setCell ?_ (by first | omega | (simp; done) | (simp; omega)) _ | with_reducible refine Below.alloc ?_ (by first | omega | (simp; done) | (simp; omega)) _ | with_reducible refine Below.drew ?_ | with_reducible refine Ext.on _ ?_ (by first | omega | (simp; done) | (simp; omega)))); rintro e _ ⟨sn, st, rfl, hsn, hst, ⟨yp, rfl⟩⟩; have yps := yp.size; (try simp at yps); have ypa : w.heap.size < yp.val.heap.size := (by omega); have ypb : w.heap.size + 1 < yp.val.heap.size := (by omega); have ypc : w.heap.size + 1 + 1 < yp.val.heap.size := (by omega); clear G)
      | (go_at_call 23; have G := Lib.hid (fun W hb1 => Fit_calls N D sn.a sn.len sn.cap st.a st.len st.cap W (hsn.later hb1) (hst.later hb1)); rw [frV_parts, FN.out, FD.out, FE.out] at G; (with_reducible refine Calls.mono (G.out _ ?_) ?_); (focus (repeat first | with_reducible exact Below.refl _ _ | with_reducible refine Below.setCell ?_ (by first | omega | (simp; done) | (simp; omega)) _ | with_reducible refine Below.alloc ?_ (by first | omega | (simp; done) | (simp; omega)) _ | with_reducible refine Below.drew ?_ | with_reducible refine Ext.on _ ?_ (by first | omega | (simp; done) | (simp; omega)))); rintro e _ ⟨rfl, ⟨yf, rfl⟩⟩; have yfs := yf.size; (try simp at yfs); have yfa : w.heap.size < yf.val.heap.size := (by omega); have yfb : w.heap.size + 1 < yf.val.heap.size := (by omega); have yfc : w.heap.size + 1 + 1 < yf.val.heap.size := (by omega); have T0 : v1.val.heap[w.heap.size + 1 + 1]? = some (Obj.cells #[.int .i64 0, .int .i64 0] 23) := (v1.below.block (w.heap.size + 1 + 1) (by simp)).trans (new_at2 w _ _ _ _); have T1 : v2.val.heap[w.heap.size + 1 + 1]? = some (Obj.cells #[.int .i64 0, .int .i64 0] 23) := (v2.below.block (w.heap.size + 1 + 1) (by first | omega | (simp; omega))).trans T0; have T2 : y1.val.heap[w.heap.size + 1 + 1]? = some (Obj.cells #[.int .i64 0, .int .i64 0] 23) := (y1.below.block (w.heap.size + 1 + 1) (by first | omega | (simp; omega))).trans T1; have T3 : y2.val.heap[w.heap.size + 1 + 1]? = some (Obj.cells #[.int .i64 0, .int .i64 0] 23) := (y2.below.block (w.heap.size + 1 + 1) (by first | omega | (simp; omega))).trans T2; have T4 : y3.val.heap[w.heap.size + 1 + 1]? = some (Obj.cells #[.int .i64 0, .int .i64 0] 23) := (y3.below.block (w.heap.size + 1 + 1) (by first | omega | (simp; omega))).trans T3; have T5 : y4.val.heap[w.heap.size + 1 + 1]? = some (Obj.cells #[.int .i64 0, .int .i64 0] 23) := (y4.below.block (w.heap.size + 1 + 1) (by first | omega | (simp; omega))).trans T4; have T6 : y5.val.heap[w.heap.size + 1 + 1]? = some (Obj.cells #[.int .i64 0, .int .i64 0] 23) := (y5.below.block (w.heap.size + 1 + 1) (by first | omega | (simp; omega))).trans T5; have T7 : y6.val.heap[w.heap.size + 1 + 1]? = some (Obj.cells #[.int .i64 0, .int .i64 0] 23) := (y6.below.block (w.heap.size + 1 + 1) (by first | omega | (simp; omega))).trans T6; have T8 : yp.val.heap[w.heap.size + 1 + 1]? = some (Obj.cells #[.int .i64 0, .int .i64 0] 23) := (yp.below.block (w.heap.size + 1 + 1) (by first | omega | (simp; omega))).trans T7; have T9 : yf.val.heap[w.heap.size + 1 + 1]? = some (Obj.cells #[.int .i64 0, .int .i64 0] 23) := (yf.below.block (w.heap.size + 1 + 1) (by first | omega | (simp; omega))).trans T8; have HT := Lib.hid T9; obtain ⟨k0, k1, k2, k3, k4⟩ := two_z HT.out; clear G))
  have HB : Below w.heap.size w yf.val := by repeat first | with_reducible exact Below.refl _ _ | with_reducible refine Below.setCell ?_ (by first | omega | (simp; done) | (simp; omega)) _ | with_reducible refine Below.alloc ?_ (by first | omega | (simp; done) | (simp; omega)) _ | with_reducible refine Below.drew ?_ | with_reducible refine Ext.on _ ?_ (by first | omega | (simp; done) | (simp; omega))
  go_wp2
  refine ret_ex rfl ?_
  simp [results, Try.results16, go_sem, k3, k4]
  exact Cls.of (below2 HB (by omega) _ _)
set_option maxHeartbeats 16000000 in
set_option maxRecDepth 20000 in
theorem rAdd_no (an ad bn bd : Int) (w : World) (h : (vaB an ad && vaB bn bd) = false) :
    Calls Try.prog 8 #[.agg #[.int .i64 an, .int .i64 ad], .agg #[.int .i64 bn, .int .i64 bd]] w fun e w' => e = .returned (.tuple #[.agg #[.int .i64 0, .int .i64 0], .int .i64 1]) ∧ Cls w w' := by
  have V1 := Lib.hid (fun W => rValid_calls an ad W)
  have V2 := Lib.hid (fun W => rValid_calls bn bd W)
  cases ha : vaB an ad with
  | false =>
    rw [ha] at V1
    clear V2 h ha
    go_enter Try.func8, Try.ntmps8
    go_wp2_with (go_at_call 10; (with_reducible refine (V1.out _).mono ?_); rintro e _ ⟨rfl, ⟨v1, rfl⟩⟩; have v1s := v1.size; (try simp at v1s); have v1a : w.heap.size < v1.val.heap.size := (by omega); have v1b : w.heap.size + 1 < v1.val.heap.size := (by omega); have v1c : w.heap.size + 1 + 1 < v1.val.heap.size := (by omega); obtain ⟨k0, k1, k2, k3, k4⟩ := two_z ((v1.below.block (w.heap.size + 1 + 1) (by simp)).trans (new_at2 w _ _ _ _)))
    refine ret_ex rfl ?_
    simp [results, Try.results8, go_sem, k3, k4]
    refine Cls.of ?_
    repeat first | with_reducible exact Below.refl _ _ | with_reducible refine Below.setCell ?_ (by first | omega | (simp; done) | (simp; omega)) _ | with_reducible refine Below.alloc ?_ (by first | omega | (simp; done) | (simp; omega)) _ | with_reducible refine Below.drew ?_ | with_reducible refine Ext.on _ ?_ (by first | omega | (simp; done) | (simp; omega))
  | true =>
    rw [ha] at V1
    have hb : vaB bn bd = false := by simpa [ha] using h
    rw [hb] at V2
    clear h ha hb
    go_enter Try.func8, Try.ntmps8
    go_wp2_with (first | (go_at_call 10; (with_reducible refine (V1.out _).mono ?_); rintro e _ ⟨rfl, ⟨v1, rfl⟩⟩; have v1s := v1.size; (try simp at v1s); have v1a : w.heap.size < v1.val.heap.size := (by omega); have v1b : w.heap.size + 1 < v1.val.heap.size := (by omega); have v1c : w.heap.size + 1 + 1 < v1.val.heap.size := (by omega); obtain ⟨k0, k1, k2, k3, k4⟩ := two_z ((v1.below.block (w.heap.size + 1 + 1) (by simp)).trans (new_at2 w _ _ _ _))) | (go_at_call 10; (with_reducible refine (V2.out _).mono ?_); rintro e _ ⟨rfl, ⟨v2, rfl⟩⟩; have v2s := v2.size; (try simp at v2s); have v2a : w.heap.size < v2.val.heap.size := (by omega); have v2b : w.heap.size + 1 < v2.val.heap.size := (by omega); have v2c : w.heap.size + 1 + 1 < v2.val.heap.size := (by omega); obtain ⟨j0, j1, j2, j3, j4⟩ := two_z ((v2.below.block (w.heap.size + 1 + 1) (by omega)).trans ((v1.below.block (w.heap.size + 1 + 1) (by simp)).trans (new_at2 w _ _ _ _)))))
    refine ret_ex rfl ?_
    simp [results, Try.results8, go_sem, j3, j4]
    refine Cls.of ?_
    repeat first | with_reducible exact Below.refl _ _ | with_reducible refine Below.setCell ?_ (by first | omega | (simp; done) | (simp; omega)) _ | with_reducible refine Below.alloc ?_ (by first | omega | (simp; done) | (simp; omega)) _ | with_reducible refine Below.drew ?_ | with_reducible refine Ext.on _ ?_ (by first | omega | (simp; done) | (simp; omega))
set_option maxHeartbeats 16000000 in
set_option maxRecDepth 20000 in
theorem rSub_no (an ad bn bd : Int) (w : World) (h : (vaB an ad && vaB bn bd) = false) :
    Calls Try.prog 12 #[.agg #[.int .i64 an, .int .i64 ad], .agg #[.int .i64 bn, .int .i64 bd]] w fun e w' => e = .returned (.tuple #[.agg #[.int .i64 0, .int .i64 0], .int .i64 1]) ∧ Cls w w' := by
  have V1 := Lib.hid (fun W => rValid_calls an ad W)
  have V2 := Lib.hid (fun W => rValid_calls bn bd W)
  cases ha : vaB an ad with
  | false =>
    rw [ha] at V1
    clear V2 h ha
    go_enter Try.func12, Try.ntmps12
    go_wp2_with (go_at_call 10; (with_reducible refine (V1.out _).mono ?_); rintro e _ ⟨rfl, ⟨v1, rfl⟩⟩; have v1s := v1.size; (try simp at v1s); have v1a : w.heap.size < v1.val.heap.size := (by omega); have v1b : w.heap.size + 1 < v1.val.heap.size := (by omega); have v1c : w.heap.size + 1 + 1 < v1.val.heap.size := (by omega); obtain ⟨k0, k1, k2, k3, k4⟩ := two_z ((v1.below.block (w.heap.size + 1 + 1) (by simp)).trans (new_at2 w _ _ _ _)))
    refine ret_ex rfl ?_
    simp [results, Try.results12, go_sem, k3, k4]
    refine Cls.of ?_
    repeat first | with_reducible exact Below.refl _ _ | with_reducible refine Below.setCell ?_ (by first | omega | (simp; done) | (simp; omega)) _ | with_reducible refine Below.alloc ?_ (by first | omega | (simp; done) | (simp; omega)) _ | with_reducible refine Below.drew ?_ | with_reducible refine Ext.on _ ?_ (by first | omega | (simp; done) | (simp; omega))
  | true =>
    rw [ha] at V1
    have hb : vaB bn bd = false := by simpa [ha] using h
    rw [hb] at V2
    clear h ha hb
    go_enter Try.func12, Try.ntmps12
    go_wp2_with (first | (go_at_call 10; (with_reducible refine (V1.out _).mono ?_); rintro e _ ⟨rfl, ⟨v1, rfl⟩⟩; have v1s := v1.size; (try simp at v1s); have v1a : w.heap.size < v1.val.heap.size := (by omega); have v1b : w.heap.size + 1 < v1.val.heap.size := (by omega); have v1c : w.heap.size + 1 + 1 < v1.val.heap.size := (by omega); obtain ⟨k0, k1, k2, k3, k4⟩ := two_z ((v1.below.block (w.heap.size + 1 + 1) (by simp)).trans (new_at2 w _ _ _ _))) | (go_at_call 10; (with_reducible refine (V2.out _).mono ?_); rintro e _ ⟨rfl, ⟨v2, rfl⟩⟩; have v2s := v2.size; (try simp at v2s); have v2a : w.heap.size < v2.val.heap.size := (by omega); have v2b : w.heap.size + 1 < v2.val.heap.size := (by omega); have v2c : w.heap.size + 1 + 1 < v2.val.heap.size := (by omega); obtain ⟨j0, j1, j2, j3, j4⟩ := two_z ((v2.below.block (w.heap.size + 1 + 1) (by omega)).trans ((v1.below.block (w.heap.size + 1 + 1) (by simp)).trans (new_at2 w _ _ _ _)))))
    refine ret_ex rfl ?_
    simp [results, Try.results12, go_sem, j3, j4]
    refine Cls.of ?_
    repeat first | with_reducible exact Below.refl _ _ | with_reducible refine Below.setCell ?_ (by first | omega | (simp; done) | (simp; omega)) _ | with_reducible refine Below.alloc ?_ (by first | omega | (simp; done) | (simp; omega)) _ | with_reducible refine Below.drew ?_ | with_reducible refine Ext.on _ ?_ (by first | omega | (simp; done) | (simp; omega))
set_option maxHeartbeats 16000000 in
set_option maxRecDepth 20000 in
theorem rMul_no (an ad bn bd : Int) (w : World) (h : (vaB an ad && vaB bn bd) = false) :
    Calls Try.prog 14 #[.agg #[.int .i64 an, .int .i64 ad], .agg #[.int .i64 bn, .int .i64 bd]] w fun e w' => e = .returned (.tuple #[.agg #[.int .i64 0, .int .i64 0], .int .i64 1]) ∧ Cls w w' := by
  have V1 := Lib.hid (fun W => rValid_calls an ad W)
  have V2 := Lib.hid (fun W => rValid_calls bn bd W)
  cases ha : vaB an ad with
  | false =>
    rw [ha] at V1
    clear V2 h ha
    go_enter Try.func14, Try.ntmps14
    go_wp2_with (go_at_call 10; (with_reducible refine (V1.out _).mono ?_); rintro e _ ⟨rfl, ⟨v1, rfl⟩⟩; have v1s := v1.size; (try simp at v1s); have v1a : w.heap.size < v1.val.heap.size := (by omega); have v1b : w.heap.size + 1 < v1.val.heap.size := (by omega); have v1c : w.heap.size + 1 + 1 < v1.val.heap.size := (by omega); obtain ⟨k0, k1, k2, k3, k4⟩ := two_z ((v1.below.block (w.heap.size + 1 + 1) (by simp)).trans (new_at2 w _ _ _ _)))
    refine ret_ex rfl ?_
    simp [results, Try.results14, go_sem, k3, k4]
    refine Cls.of ?_
    repeat first | with_reducible exact Below.refl _ _ | with_reducible refine Below.setCell ?_ (by first | omega | (simp; done) | (simp; omega)) _ | with_reducible refine Below.alloc ?_ (by first | omega | (simp; done) | (simp; omega)) _ | with_reducible refine Below.drew ?_ | with_reducible refine Ext.on _ ?_ (by first | omega | (simp; done) | (simp; omega))
  | true =>
    rw [ha] at V1
    have hb : vaB bn bd = false := by simpa [ha] using h
    rw [hb] at V2
    clear h ha hb
    go_enter Try.func14, Try.ntmps14
    go_wp2_with (first | (go_at_call 10; (with_reducible refine (V1.out _).mono ?_); rintro e _ ⟨rfl, ⟨v1, rfl⟩⟩; have v1s := v1.size; (try simp at v1s); have v1a : w.heap.size < v1.val.heap.size := (by omega); have v1b : w.heap.size + 1 < v1.val.heap.size := (by omega); have v1c : w.heap.size + 1 + 1 < v1.val.heap.size := (by omega); obtain ⟨k0, k1, k2, k3, k4⟩ := two_z ((v1.below.block (w.heap.size + 1 + 1) (by simp)).trans (new_at2 w _ _ _ _))) | (go_at_call 10; (with_reducible refine (V2.out _).mono ?_); rintro e _ ⟨rfl, ⟨v2, rfl⟩⟩; have v2s := v2.size; (try simp at v2s); have v2a : w.heap.size < v2.val.heap.size := (by omega); have v2b : w.heap.size + 1 < v2.val.heap.size := (by omega); have v2c : w.heap.size + 1 + 1 < v2.val.heap.size := (by omega); obtain ⟨j0, j1, j2, j3, j4⟩ := two_z ((v2.below.block (w.heap.size + 1 + 1) (by omega)).trans ((v1.below.block (w.heap.size + 1 + 1) (by simp)).trans (new_at2 w _ _ _ _)))))
    refine ret_ex rfl ?_
    simp [results, Try.results14, go_sem, j3, j4]
    refine Cls.of ?_
    repeat first | with_reducible exact Below.refl _ _ | with_reducible refine Below.setCell ?_ (by first | omega | (simp; done) | (simp; omega)) _ | with_reducible refine Below.alloc ?_ (by first | omega | (simp; done) | (simp; omega)) _ | with_reducible refine Below.drew ?_ | with_reducible refine Ext.on _ ?_ (by first | omega | (simp; done) | (simp; omega))
set_option maxHeartbeats 16000000 in
set_option maxRecDepth 20000 in
theorem rDiv_no (an ad bn bd : Int) (w : World) (h : (vaB an ad && vaB bn bd && !(bn == 0)) = false) :
    Calls Try.prog 16 #[.agg #[.int .i64 an, .int .i64 ad], .agg #[.int .i64 bn, .int .i64 bd]] w fun e w' => e = .returned (.tuple #[.agg #[.int .i64 0, .int .i64 0], .int .i64 1]) ∧ Cls w w' := by
  have V1 := Lib.hid (fun W => rValid_calls an ad W)
  have V2 := Lib.hid (fun W => rValid_calls bn bd W)
  cases ha : vaB an ad with
  | false =>
    rw [ha] at V1
    clear V2 h ha
    go_enter Try.func16, Try.ntmps16
    go_wp2_with (go_at_call 10; (with_reducible refine (V1.out _).mono ?_); rintro e _ ⟨rfl, ⟨v1, rfl⟩⟩; have v1s := v1.size; (try simp at v1s); have v1a : w.heap.size < v1.val.heap.size := (by omega); have v1b : w.heap.size + 1 < v1.val.heap.size := (by omega); have v1c : w.heap.size + 1 + 1 < v1.val.heap.size := (by omega); obtain ⟨k0, k1, k2, k3, k4⟩ := two_z ((v1.below.block (w.heap.size + 1 + 1) (by simp)).trans (new_at2 w _ _ _ _)))
    refine ret_ex rfl ?_
    simp [results, Try.results16, go_sem, k3, k4]
    refine Cls.of ?_
    repeat first | with_reducible exact Below.refl _ _ | with_reducible refine Below.setCell ?_ (by first | omega | (simp; done) | (simp; omega)) _ | with_reducible refine Below.alloc ?_ (by first | omega | (simp; done) | (simp; omega)) _ | with_reducible refine Below.drew ?_ | with_reducible refine Ext.on _ ?_ (by first | omega | (simp; done) | (simp; omega))
  | true =>
    rw [ha] at V1
    cases hb : vaB bn bd with
    | false =>
      rw [hb] at V2
      clear h ha hb
      go_enter Try.func16, Try.ntmps16
      go_wp2_with (first | (go_at_call 10; (with_reducible refine (V1.out _).mono ?_); rintro e _ ⟨rfl, ⟨v1, rfl⟩⟩; have v1s := v1.size; (try simp at v1s); have v1a : w.heap.size < v1.val.heap.size := (by omega); have v1b : w.heap.size + 1 < v1.val.heap.size := (by omega); have v1c : w.heap.size + 1 + 1 < v1.val.heap.size := (by omega); obtain ⟨k0, k1, k2, k3, k4⟩ := two_z ((v1.below.block (w.heap.size + 1 + 1) (by simp)).trans (new_at2 w _ _ _ _))) | (go_at_call 10; (with_reducible refine (V2.out _).mono ?_); rintro e _ ⟨rfl, ⟨v2, rfl⟩⟩; have v2s := v2.size; (try simp at v2s); have v2a : w.heap.size < v2.val.heap.size := (by omega); have v2b : w.heap.size + 1 < v2.val.heap.size := (by omega); have v2c : w.heap.size + 1 + 1 < v2.val.heap.size := (by omega); obtain ⟨j0, j1, j2, j3, j4⟩ := two_z ((v2.below.block (w.heap.size + 1 + 1) (by omega)).trans ((v1.below.block (w.heap.size + 1 + 1) (by simp)).trans (new_at2 w _ _ _ _)))))
      refine ret_ex rfl ?_
      simp [results, Try.results16, go_sem, j3, j4]
      refine Cls.of ?_
      repeat first | with_reducible exact Below.refl _ _ | with_reducible refine Below.setCell ?_ (by first | omega | (simp; done) | (simp; omega)) _ | with_reducible refine Below.alloc ?_ (by first | omega | (simp; done) | (simp; omega)) _ | with_reducible refine Below.drew ?_ | with_reducible refine Ext.on _ ?_ (by first | omega | (simp; done) | (simp; omega))
    | true =>
      have hn : bn = 0 := by simpa [ha, hb] using h
      subst hn
      rw [hb] at V2
      clear h ha hb
      go_enter Try.func16, Try.ntmps16
      go_wp2_with (first | (go_at_call 10; (with_reducible refine (V1.out _).mono ?_); rintro e _ ⟨rfl, ⟨v1, rfl⟩⟩; have v1s := v1.size; (try simp at v1s); have v1a : w.heap.size < v1.val.heap.size := (by omega); have v1b : w.heap.size + 1 < v1.val.heap.size := (by omega); have v1c : w.heap.size + 1 + 1 < v1.val.heap.size := (by omega); obtain ⟨k0, k1, k2, k3, k4⟩ := two_z ((v1.below.block (w.heap.size + 1 + 1) (by simp)).trans (new_at2 w _ _ _ _))) | (go_at_call 10; (with_reducible refine (V2.out _).mono ?_); rintro e _ ⟨rfl, ⟨v2, rfl⟩⟩; have v2s := v2.size; (try simp at v2s); have v2a : w.heap.size < v2.val.heap.size := (by omega); have v2b : w.heap.size + 1 < v2.val.heap.size := (by omega); have v2c : w.heap.size + 1 + 1 < v2.val.heap.size := (by omega); obtain ⟨j0, j1, j2, j3, j4⟩ := two_z ((v2.below.block (w.heap.size + 1 + 1) (by omega)).trans ((v1.below.block (w.heap.size + 1 + 1) (by simp)).trans (new_at2 w _ _ _ _)))))
      refine ret_ex rfl ?_
      simp [results, Try.results16, go_sem, j3, j4]
      refine Cls.of ?_
      repeat first | with_reducible exact Below.refl _ _ | with_reducible refine Below.setCell ?_ (by first | omega | (simp; done) | (simp; omega)) _ | with_reducible refine Below.alloc ?_ (by first | omega | (simp; done) | (simp; omega)) _ | with_reducible refine Below.drew ?_ | with_reducible refine Ext.on _ ?_ (by first | omega | (simp; done) | (simp; omega))
theorem rAdd_calls (an ad bn bd : Int) (w : World) (h1 : In64 an) (h2 : In64 ad) (h3 : In64 bn) (h4 : In64 bd) :
    Calls Try.prog 8 #[.agg #[.int .i64 an, .int .i64 ad], .agg #[.int .i64 bn, .int .i64 bd]] w fun e w' => e = .returned (rsV (vaB an ad && vaB bn bd) (an * bd + bn * ad) (ad.natAbs * bd.natAbs)) ∧ Cls w w' := by
  cases h : (vaB an ad && vaB bn bd) with
  | false => rw [rsV_no]; exact rAdd_no an ad bn bd w h
  | true =>
    simp only [Bool.and_eq_true] at h
    rw [rsV_ok, frV_parts]
    exact rAdd_yes an ad bn bd w h1 h2 h3 h4 h.1 h.2 _ _ _ _ _ rfl rfl rfl rfl rfl
theorem rSub_calls (an ad bn bd : Int) (w : World) (h1 : In64 an) (h2 : In64 ad) (h3 : In64 bn) (h4 : In64 bd) :
    Calls Try.prog 12 #[.agg #[.int .i64 an, .int .i64 ad], .agg #[.int .i64 bn, .int .i64 bd]] w fun e w' => e = .returned (rsV (vaB an ad && vaB bn bd) (an * bd + -bn * ad) (ad.natAbs * bd.natAbs)) ∧ Cls w w' := by
  cases h : (vaB an ad && vaB bn bd) with
  | false => rw [rsV_no]; exact rSub_no an ad bn bd w h
  | true =>
    simp only [Bool.and_eq_true] at h
    rw [rsV_ok, frV_parts]
    exact rSub_yes an ad bn bd w h1 h2 h3 h4 h.1 h.2 _ _ _ _ _ rfl rfl rfl rfl rfl
theorem rMul_calls (an ad bn bd : Int) (w : World) (h1 : In64 an) (h2 : In64 ad) (h3 : In64 bn) (h4 : In64 bd) :
    Calls Try.prog 14 #[.agg #[.int .i64 an, .int .i64 ad], .agg #[.int .i64 bn, .int .i64 bd]] w fun e w' => e = .returned (rsV (vaB an ad && vaB bn bd) (an * bn) (ad.natAbs * bd.natAbs)) ∧ Cls w w' := by
  cases h : (vaB an ad && vaB bn bd) with
  | false => rw [rsV_no]; exact rMul_no an ad bn bd w h
  | true =>
    simp only [Bool.and_eq_true] at h
    rw [rsV_ok, frV_parts]
    exact rMul_yes an ad bn bd w h1 h2 h3 h4 h.1 h.2 _ _ _ _ _ rfl rfl rfl rfl rfl
theorem rDiv_calls (an ad bn bd : Int) (w : World) (h1 : In64 an) (h2 : In64 ad) (h3 : In64 bn) (h4 : In64 bd) :
    Calls Try.prog 16 #[.agg #[.int .i64 an, .int .i64 ad], .agg #[.int .i64 bn, .int .i64 bd]] w fun e w' => e = .returned (rsV (vaB an ad && vaB bn bd && !(bn == 0)) (an * (if bn < 0 then -bd else bd)) (ad.natAbs * bn.natAbs)) ∧ Cls w w' := by
  cases h : (vaB an ad && vaB bn bd && !(bn == 0)) with
  | false => rw [rsV_no]; exact rDiv_no an ad bn bd w h
  | true =>
    simp only [Bool.and_eq_true] at h
    rw [rsV_ok, frV_parts]
    exact rDiv_yes an ad bn bd w h1 h2 h3 h4 h.1.1 h.1.2 (by simpa using h.2) _ _ _ _ _ rfl rfl rfl rfl rfl
end Go.Proofs.Ythlaejodajdioaa
