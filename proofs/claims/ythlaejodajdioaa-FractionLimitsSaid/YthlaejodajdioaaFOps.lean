/-
  The program's fractions: the four operations.
-/
import Derived.Test.YthlaejodajdioaaFRat5
set_option linter.unusedVariables false
namespace Go.Proofs.Ythlaejodajdioaa
open Go Go.RowKit Go.Deep
/-- What an operation gives: N / D in lowest terms, or an error. -/
def rsN (ok : Bool) (N : Int) (D : Nat) : Int := if ok = true then frN N D else 0
def rsD (ok : Bool) (N : Int) (D : Nat) : Int := if ok = true then frD N D else 0
def rsE (ok : Bool) (N : Int) (D : Nat) : Int := if ok = true then frE N D else 1
def rsV (ok : Bool) (N : Int) (D : Nat) : Value := .tuple #[.agg #[.int .i64 (rsN ok N D), .int .i64 (rsD ok N D)], .int .i64 (rsE ok N D)]
theorem rsV_ok (N : Int) (D : Nat) : rsV true N D = frV N D := by simp [rsV, rsN, rsD, rsE, frV]
theorem rsV_no (N : Int) (D : Nat) : rsV false N D = .tuple #[.agg #[.int .i64 0, .int .i64 0], .int .i64 1] := by simp [rsV, rsN, rsD, rsE]
theorem frV_parts (N : Int) (D : Nat) : frV N D = .tuple #[.agg #[.int .i64 (frN N D), .int .i64 (frD N D)], .int .i64 (frE N D)] := rfl
theorem vaB_neg {n d : Int} (h : vaB n d = true) : vaB (-n) d = true := by
  have h1 := vaB_gcd h
  obtain ⟨a1, a2, a3, a4⟩ := vaB_rng h
  unfold vaB rngB
  rw [Int.natAbs_neg, h1]
  simp
  omega
theorem vaB_inv {n d : Int} (h : vaB n d = true) (hn : n ≠ 0) : vaB (if n < 0 then -d else d) (n.natAbs : Int) = true := by
  have h1 := vaB_gcd h
  obtain ⟨a1, a2, a3, a4⟩ := vaB_rng h
  have e : (if n < 0 then -d else d).natAbs = d.natAbs := by split <;> simp
  unfold vaB rngB
  rw [e, Int.natAbs_natCast, Nat.gcd_comm, h1]
  split <;> simp <;> omega
theorem new_at2' (w : World) (o o' : Obj) (cs : Array Value) (t : TypeId) : (((w.alloc o).alloc o').alloc (.cells cs t)).heap[w.heap.size + 1 + 1]? = some (.cells cs t) := new_at2 w o o' cs t
set_option maxHeartbeats 8000000 in
set_option maxRecDepth 20000 in
theorem Sub1_calls (an bn : Int) (ad bd : Nat) (w : World) (ha : vaB an ad = true) (hb : vaB bn bd = true) :
    Calls Try.prog 31 #[.agg #[.int .i64 an, .int .i64 (ad : Int)], .agg #[.int .i64 bn, .int .i64 (bd : Int)]] w fun e w' => e = .returned (frV (an * bd + -bn * ad) (ad * bd)) ∧ Cls w w' := by
  obtain ⟨b1, b2, b3, b4⟩ := vaB_rng hb
  have C1 := Lib.hid (fun W => negated_calls bn bd W b3 b4)
  have C2 := Lib.hid (fun W => plus_calls' an (-bn) ad bd W ha (vaB_neg hb))
  rw [frV_parts] at C2 ⊢
  generalize frN (an * bd + -bn * ad) (ad * bd) = rn at *
  generalize frD (an * bd + -bn * ad) (ad * bd) = rd at *
  generalize frE (an * bd + -bn * ad) (ad * bd) = re at *
  clear ha hb b1 b2 b3 b4
  generalize -bn = nb at *
  go_enter Try.func31, Try.ntmps31
  go_wp2_with fail
  refine wp_region_ext_tail 6 (by kernel_rfl) (by kernel_rfl) ?_
  simp only [List.take_succ_cons, List.take_zero, List.drop_succ_cons, List.drop_zero]
  repeat (go_big_quiet_step (first | (go_at_call 32; with_reducible exact Cls.call (C1.out _)) | (go_at_call 22; with_reducible exact Cls.call (C2.out _))))
  refine wpQuiet_nil ?_
  rintro _ ⟨y7, rfl⟩
  obtain ⟨c0, c1, c2, c3, c4⟩ := two_z ((y7.below.block (w.heap.size + 1 + 1) (by simp)).trans (new_at2' w _ _ _ _))
  go_wp2_with fail
  refine ret_ex rfl ?_
  simp [results, Try.results31, go_sem, c3, c4]
  refine Cls.of ?_
  repeat first | with_reducible exact Below.refl _ _ | with_reducible refine Below.setCell ?_ (by first | omega | (simp; done) | (simp; omega)) _ | with_reducible refine Below.alloc ?_ (by first | omega | (simp; done) | (simp; omega)) _ | with_reducible refine Below.drew ?_ | with_reducible refine Ext.on _ ?_ (by first | omega | (simp; done) | (simp; omega))
set_option maxHeartbeats 8000000 in
set_option maxRecDepth 20000 in
theorem Div1_zero (an : Int) (ad bd : Int) (w : World) :
    Calls Try.prog 36 #[.agg #[.int .i64 an, .int .i64 ad], .agg #[.int .i64 0, .int .i64 bd]] w fun e w' => e = .returned (.tuple #[.agg #[.int .i64 0, .int .i64 0], .int .i64 1]) ∧ Cls w w' := by
  go_enter Try.func36, Try.ntmps36
  go_wp2_with fail
  refine ret_ex rfl ?_
  simp [results, Try.results36, go_sem]
  refine Cls.of ?_
  repeat first | with_reducible exact Below.refl _ _ | with_reducible refine Below.setCell ?_ (by first | omega | (simp; done) | (simp; omega)) _ | with_reducible refine Below.alloc ?_ (by first | omega | (simp; done) | (simp; omega)) _ | with_reducible refine Below.drew ?_ | with_reducible refine Ext.on _ ?_ (by first | omega | (simp; done) | (simp; omega))
set_option maxHeartbeats 8000000 in
set_option maxRecDepth 20000 in
theorem Div1_calls (an bn : Int) (ad bd : Nat) (w : World) (ha : vaB an ad = true) (hb : vaB bn bd = true) (hn : bn ≠ 0) :
    Calls Try.prog 36 #[.agg #[.int .i64 an, .int .i64 (ad : Int)], .agg #[.int .i64 bn, .int .i64 (bd : Int)]] w fun e w' => e = .returned (frV (an * (if bn < 0 then -(bd : Int) else bd)) (ad * bn.natAbs)) ∧ Cls w w' := by
  obtain ⟨b1, b2, b3, b4⟩ := vaB_rng hb
  have C1 := Lib.hid (fun W => inverted_calls bn bd W b3 b4 b1 b2)
  have C2 := Lib.hid (fun W => times_calls an (if bn < 0 then -(bd : Int) else bd) ad bn.natAbs W ha (vaB_inv hb hn))
  rw [frV_parts] at C2 ⊢
  generalize (if bn < 0 then -(bd : Int) else (bd : Int)) = nb at *
  generalize frN (an * nb) (ad * bn.natAbs) = rn at *
  generalize frD (an * nb) (ad * bn.natAbs) = rd at *
  generalize frE (an * nb) (ad * bn.natAbs) = re at *
  have d0 : (bn == 0) = false := by simpa using hn
  clear ha hb b1 b2 b3 b4 hn
  generalize bn.natAbs = bm at *
  go_enter Try.func36, Try.ntmps36
  go_wp2_with fail
  refine wp_region_ext_tail 6 (by kernel_rfl) (by kernel_rfl) ?_
  simp only [List.take_succ_cons, List.take_zero, List.drop_succ_cons, List.drop_zero]
  repeat (go_big_quiet_step (first | (go_at_call 37; with_reducible exact Cls.call (C1.out _)) | (go_at_call 34; with_reducible exact Cls.call (C2.out _))))
  refine wpQuiet_nil ?_
  rintro _ ⟨y7, rfl⟩
  obtain ⟨c0, c1, c2, c3, c4⟩ := two_z ((y7.below.block (w.heap.size + 1 + 1) (by simp)).trans (new_at2' w _ _ _ _))
  go_wp2_with fail
  refine ret_ex rfl ?_
  simp [results, Try.results36, go_sem, c3, c4]
  refine Cls.of ?_
  repeat first | with_reducible exact Below.refl _ _ | with_reducible refine Below.setCell ?_ (by first | omega | (simp; done) | (simp; omega)) _ | with_reducible refine Below.alloc ?_ (by first | omega | (simp; done) | (simp; omega)) _ | with_reducible refine Below.drew ?_ | with_reducible refine Ext.on _ ?_ (by first | omega | (simp; done) | (simp; omega))
set_option maxHeartbeats 8000000 in
set_option maxRecDepth 20000 in
theorem compute_Add (an ad bn bd : Int) (rn rd re : Int) (w : World) (h1 : In64 an) (h2 : In64 ad) (h3 : In64 bn) (h4 : In64 bd) (va vb : Bool) (hva : vaB an ad = va) (hvb : vaB bn bd = vb)
    (hno : (va && vb) = false → rn = 0 ∧ rd = 0 ∧ re = 1) (hC : (va && vb) = true → Hid (∀ W, Calls Try.prog 22 #[.agg #[.int .i64 an, .int .i64 ad], .agg #[.int .i64 bn, .int .i64 bd]] W fun e w' => e = .returned (.tuple #[.agg #[.int .i64 rn, .int .i64 rd], .int .i64 re]) ∧ Cls W w')) :
    Calls Try.prog 21 #[.agg #[.int .i64 an, .int .i64 ad], .agg #[.int .i64 bn, .int .i64 bd], .func (.func 22) #[] #[]] w fun e w' => e = .returned (.tuple #[.agg #[.int .i64 rn, .int .i64 rd], .int .i64 re]) ∧ Cls w w' := by
  have V1 := Lib.hid (fun W => Valid_calls an ad W h1.1 h1.2 h2.1 h2.2)
  have V2 := Lib.hid (fun W => Valid_calls bn bd W h3.1 h3.2 h4.1 h4.2)
  rw [hva] at V1
  rw [hvb] at V2
  clear h1 h2 h3 h4 hva hvb
  cases va
  · obtain ⟨rfl, rfl, rfl⟩ := hno rfl
    clear hno hC V2
    go_enter Try.func21, Try.ntmps21
    go_wp2_with (go_at_call 9; (with_reducible refine (V1.out _).mono ?_); rintro e _ ⟨rfl, ⟨y1, rfl⟩⟩; have y1s := y1.size; (try simp at y1s); have y1a : w.heap.size < y1.val.heap.size := (by omega); have y1b : w.heap.size + 1 < y1.val.heap.size := (by omega); have y1c : w.heap.size + 1 + 1 < y1.val.heap.size := (by omega); obtain ⟨c0, c1, c2, c3, c4⟩ := two_z ((y1.below.block (w.heap.size + 1 + 1) (by simp)).trans (new_at2' w _ _ _ _)))
    refine ret_ex rfl ?_
    simp [results, Try.results21, go_sem, c3, c4]
    refine Cls.of ?_
    repeat first | with_reducible exact Below.refl _ _ | with_reducible refine Below.setCell ?_ (by first | omega | (simp; done) | (simp; omega)) _ | with_reducible refine Below.alloc ?_ (by first | omega | (simp; done) | (simp; omega)) _ | with_reducible refine Below.drew ?_ | with_reducible refine Ext.on _ ?_ (by first | omega | (simp; done) | (simp; omega))
  · cases vb
    · obtain ⟨rfl, rfl, rfl⟩ := hno rfl
      clear hno hC
      go_enter Try.func21, Try.ntmps21
      go_wp2_with (first | (go_at_call 9; (with_reducible refine (V1.out _).mono ?_); rintro e _ ⟨rfl, ⟨y1, rfl⟩⟩; have y1s := y1.size; (try simp at y1s); have y1a : w.heap.size < y1.val.heap.size := (by omega); have y1b : w.heap.size + 1 < y1.val.heap.size := (by omega); have y1c : w.heap.size + 1 + 1 < y1.val.heap.size := (by omega)) | (go_at_call 9; (with_reducible refine (V2.out _).mono ?_); rintro e _ ⟨rfl, ⟨y2, rfl⟩⟩; have y2s := y2.size; (try simp at y2s); have y2a : w.heap.size < y2.val.heap.size := (by omega); have y2b : w.heap.size + 1 < y2.val.heap.size := (by omega); have y2c : w.heap.size + 1 + 1 < y2.val.heap.size := (by omega); obtain ⟨c0, c1, c2, c3, c4⟩ := two_z ((y2.below.block (w.heap.size + 1 + 1) (by omega)).trans ((y1.below.block (w.heap.size + 1 + 1) (by simp)).trans (new_at2' w _ _ _ _)))))
      refine ret_ex rfl ?_
      simp [results, Try.results21, go_sem, c3, c4]
      refine Cls.of ?_
      repeat first | with_reducible exact Below.refl _ _ | with_reducible refine Below.setCell ?_ (by first | omega | (simp; done) | (simp; omega)) _ | with_reducible refine Below.alloc ?_ (by first | omega | (simp; done) | (simp; omega)) _ | with_reducible refine Below.drew ?_ | with_reducible refine Ext.on _ ?_ (by first | omega | (simp; done) | (simp; omega))
    · have C3 := hC rfl
      clear hno hC
      go_enter Try.func21, Try.ntmps21
      go_wp2_with (first | (go_at_call 9; (with_reducible refine (V1.out _).mono ?_); rintro e _ ⟨rfl, ⟨y1, rfl⟩⟩; have y1s := y1.size; (try simp at y1s); have y1a : w.heap.size < y1.val.heap.size := (by omega); have y1b : w.heap.size + 1 < y1.val.heap.size := (by omega); have y1c : w.heap.size + 1 + 1 < y1.val.heap.size := (by omega)) | (go_at_call 9; (with_reducible refine (V2.out _).mono ?_); rintro e _ ⟨rfl, ⟨y2, rfl⟩⟩; have y2s := y2.size; (try simp at y2s); have y2a : w.heap.size < y2.val.heap.size := (by omega); have y2b : w.heap.size + 1 < y2.val.heap.size := (by omega); have y2c : w.heap.size + 1 + 1 < y2.val.heap.size := (by omega)) | (go_at_call 22; (with_reducible refine (C3.out _).mono ?_); rintro e _ ⟨rfl, ⟨y3, rfl⟩⟩; have y3s := y3.size; (try simp at y3s); have y3a : w.heap.size < y3.val.heap.size := (by omega); have y3b : w.heap.size + 1 < y3.val.heap.size := (by omega); have y3c : w.heap.size + 1 + 1 < y3.val.heap.size := (by omega); obtain ⟨c0, c1, c2, c3, c4⟩ := two_z ((y3.below.block (w.heap.size + 1 + 1) (by omega)).trans ((y2.below.block (w.heap.size + 1 + 1) (by omega)).trans ((y1.below.block (w.heap.size + 1 + 1) (by simp)).trans (new_at2' w _ _ _ _))))))
      refine ret_ex rfl ?_
      simp [results, Try.results21, go_sem, c3, c4]
      refine Cls.of ?_
      repeat first | with_reducible exact Below.refl _ _ | with_reducible refine Below.setCell ?_ (by first | omega | (simp; done) | (simp; omega)) _ | with_reducible refine Below.alloc ?_ (by first | omega | (simp; done) | (simp; omega)) _ | with_reducible refine Below.drew ?_ | with_reducible refine Ext.on _ ?_ (by first | omega | (simp; done) | (simp; omega))
set_option maxHeartbeats 8000000 in
set_option maxRecDepth 20000 in
theorem Add_calls (an ad bn bd : Int) (w : World) (h1 : In64 an) (h2 : In64 ad) (h3 : In64 bn) (h4 : In64 bd) :
    Calls Try.prog 7 #[.agg #[.int .i64 an, .int .i64 ad], .agg #[.int .i64 bn, .int .i64 bd]] w fun e w' => e = .returned (rsV (vaB an ad && vaB bn bd) (an * bd + bn * ad) (ad.natAbs * bd.natAbs)) ∧ Cls w w' := by
  have C1 : Hid (∀ W, Calls Try.prog 21 #[.agg #[.int .i64 an, .int .i64 ad], .agg #[.int .i64 bn, .int .i64 bd], .func (.func 22) #[] #[]] W fun e w' => e = .returned (.tuple #[.agg #[.int .i64 (rsN (vaB an ad && vaB bn bd) (an * bd + bn * ad) (ad.natAbs * bd.natAbs)), .int .i64 (rsD (vaB an ad && vaB bn bd) (an * bd + bn * ad) (ad.natAbs * bd.natAbs))], .int .i64 (rsE (vaB an ad && vaB bn bd) (an * bd + bn * ad) (ad.natAbs * bd.natAbs))]) ∧ Cls W w') := Lib.hid fun W => by
    refine compute_Add an ad bn bd _ _ _ W h1 h2 h3 h4 _ _ rfl rfl (fun h => ?_) (fun h => Lib.hid fun W => ?_)
    · have e : (vaB an ad && vaB bn bd) = false := by rw [h]
      rw [e]; exact ⟨rfl, rfl, rfl⟩
    · rw [Bool.and_eq_true] at h
      obtain ⟨ha, hb⟩ := h
      obtain ⟨a1, _, _, _⟩ := vaB_rng ha
      obtain ⟨b1, _, _, _⟩ := vaB_rng hb
      obtain ⟨x, hx⟩ : ∃ x : Nat, ad = (x : Int) := ⟨ad.natAbs, by omega⟩
      obtain ⟨y, hy⟩ : ∃ y : Nat, bd = (y : Int) := ⟨bd.natAbs, by omega⟩
      subst hx hy
      have e : (vaB an x && vaB bn y) = true := by rw [ha, hb]; rfl
      rw [e]
      have := plus_calls' an bn x y W ha hb
      rw [← rsV_ok] at this
      exact this
  have HV : rsV (vaB an ad && vaB bn bd) (an * bd + bn * ad) (ad.natAbs * bd.natAbs) = .tuple #[.agg #[.int .i64 (rsN (vaB an ad && vaB bn bd) (an * bd + bn * ad) (ad.natAbs * bd.natAbs)), .int .i64 (rsD (vaB an ad && vaB bn bd) (an * bd + bn * ad) (ad.natAbs * bd.natAbs))], .int .i64 (rsE (vaB an ad && vaB bn bd) (an * bd + bn * ad) (ad.natAbs * bd.natAbs))] := rfl
  rw [HV]
  generalize rsN (vaB an ad && vaB bn bd) (an * bd + bn * ad) (ad.natAbs * bd.natAbs) = rn at *
  generalize rsD (vaB an ad && vaB bn bd) (an * bd + bn * ad) (ad.natAbs * bd.natAbs) = rd at *
  generalize rsE (vaB an ad && vaB bn bd) (an * bd + bn * ad) (ad.natAbs * bd.natAbs) = re at *
  clear HV h1 h2 h3 h4
  go_enter Try.func7, Try.ntmps7
  go_wp2_with (go_at_call 21; (with_reducible refine (C1.out _).mono ?_); rintro e _ ⟨rfl, ⟨y1, rfl⟩⟩; have y1s := y1.size; (try simp at y1s); have y1a : w.heap.size < y1.val.heap.size := (by omega); have y1b : w.heap.size + 1 < y1.val.heap.size := (by omega); have y1c : w.heap.size + 1 + 1 < y1.val.heap.size := (by omega); obtain ⟨c0, c1, c2, c3, c4⟩ := two_z ((y1.below.block (w.heap.size + 1 + 1) (by simp)).trans (new_at2' w _ _ _ _)))
  refine ret_ex rfl ?_
  simp [results, Try.results7, go_sem, c3, c4]
  refine Cls.of ?_
  repeat first | with_reducible exact Below.refl _ _ | with_reducible refine Below.setCell ?_ (by first | omega | (simp; done) | (simp; omega)) _ | with_reducible refine Below.alloc ?_ (by first | omega | (simp; done) | (simp; omega)) _ | with_reducible refine Below.drew ?_ | with_reducible refine Ext.on _ ?_ (by first | omega | (simp; done) | (simp; omega))
set_option maxHeartbeats 8000000 in
set_option maxRecDepth 20000 in
theorem compute_Sub (an ad bn bd : Int) (rn rd re : Int) (w : World) (h1 : In64 an) (h2 : In64 ad) (h3 : In64 bn) (h4 : In64 bd) (va vb : Bool) (hva : vaB an ad = va) (hvb : vaB bn bd = vb)
    (hno : (va && vb) = false → rn = 0 ∧ rd = 0 ∧ re = 1) (hC : (va && vb) = true → Hid (∀ W, Calls Try.prog 31 #[.agg #[.int .i64 an, .int .i64 ad], .agg #[.int .i64 bn, .int .i64 bd]] W fun e w' => e = .returned (.tuple #[.agg #[.int .i64 rn, .int .i64 rd], .int .i64 re]) ∧ Cls W w')) :
    Calls Try.prog 21 #[.agg #[.int .i64 an, .int .i64 ad], .agg #[.int .i64 bn, .int .i64 bd], .func (.func 31) #[] #[]] w fun e w' => e = .returned (.tuple #[.agg #[.int .i64 rn, .int .i64 rd], .int .i64 re]) ∧ Cls w w' := by
  have V1 := Lib.hid (fun W => Valid_calls an ad W h1.1 h1.2 h2.1 h2.2)
  have V2 := Lib.hid (fun W => Valid_calls bn bd W h3.1 h3.2 h4.1 h4.2)
  rw [hva] at V1
  rw [hvb] at V2
  clear h1 h2 h3 h4 hva hvb
  cases va
  · obtain ⟨rfl, rfl, rfl⟩ := hno rfl
    clear hno hC V2
    go_enter Try.func21, Try.ntmps21
    go_wp2_with (go_at_call 9; (with_reducible refine (V1.out _).mono ?_); rintro e _ ⟨rfl, ⟨y1, rfl⟩⟩; have y1s := y1.size; (try simp at y1s); have y1a : w.heap.size < y1.val.heap.size := (by omega); have y1b : w.heap.size + 1 < y1.val.heap.size := (by omega); have y1c : w.heap.size + 1 + 1 < y1.val.heap.size := (by omega); obtain ⟨c0, c1, c2, c3, c4⟩ := two_z ((y1.below.block (w.heap.size + 1 + 1) (by simp)).trans (new_at2' w _ _ _ _)))
    refine ret_ex rfl ?_
    simp [results, Try.results21, go_sem, c3, c4]
    refine Cls.of ?_
    repeat first | with_reducible exact Below.refl _ _ | with_reducible refine Below.setCell ?_ (by first | omega | (simp; done) | (simp; omega)) _ | with_reducible refine Below.alloc ?_ (by first | omega | (simp; done) | (simp; omega)) _ | with_reducible refine Below.drew ?_ | with_reducible refine Ext.on _ ?_ (by first | omega | (simp; done) | (simp; omega))
  · cases vb
    · obtain ⟨rfl, rfl, rfl⟩ := hno rfl
      clear hno hC
      go_enter Try.func21, Try.ntmps21
      go_wp2_with (first | (go_at_call 9; (with_reducible refine (V1.out _).mono ?_); rintro e _ ⟨rfl, ⟨y1, rfl⟩⟩; have y1s := y1.size; (try simp at y1s); have y1a : w.heap.size < y1.val.heap.size := (by omega); have y1b : w.heap.size + 1 < y1.val.heap.size := (by omega); have y1c : w.heap.size + 1 + 1 < y1.val.heap.size := (by omega)) | (go_at_call 9; (with_reducible refine (V2.out _).mono ?_); rintro e _ ⟨rfl, ⟨y2, rfl⟩⟩; have y2s := y2.size; (try simp at y2s); have y2a : w.heap.size < y2.val.heap.size := (by omega); have y2b : w.heap.size + 1 < y2.val.heap.size := (by omega); have y2c : w.heap.size + 1 + 1 < y2.val.heap.size := (by omega); obtain ⟨c0, c1, c2, c3, c4⟩ := two_z ((y2.below.block (w.heap.size + 1 + 1) (by omega)).trans ((y1.below.block (w.heap.size + 1 + 1) (by simp)).trans (new_at2' w _ _ _ _)))))
      refine ret_ex rfl ?_
      simp [results, Try.results21, go_sem, c3, c4]
      refine Cls.of ?_
      repeat first | with_reducible exact Below.refl _ _ | with_reducible refine Below.setCell ?_ (by first | omega | (simp; done) | (simp; omega)) _ | with_reducible refine Below.alloc ?_ (by first | omega | (simp; done) | (simp; omega)) _ | with_reducible refine Below.drew ?_ | with_reducible refine Ext.on _ ?_ (by first | omega | (simp; done) | (simp; omega))
    · have C3 := hC rfl
      clear hno hC
      go_enter Try.func21, Try.ntmps21
      go_wp2_with (first | (go_at_call 9; (with_reducible refine (V1.out _).mono ?_); rintro e _ ⟨rfl, ⟨y1, rfl⟩⟩; have y1s := y1.size; (try simp at y1s); have y1a : w.heap.size < y1.val.heap.size := (by omega); have y1b : w.heap.size + 1 < y1.val.heap.size := (by omega); have y1c : w.heap.size + 1 + 1 < y1.val.heap.size := (by omega)) | (go_at_call 9; (with_reducible refine (V2.out _).mono ?_); rintro e _ ⟨rfl, ⟨y2, rfl⟩⟩; have y2s := y2.size; (try simp at y2s); have y2a : w.heap.size < y2.val.heap.size := (by omega); have y2b : w.heap.size + 1 < y2.val.heap.size := (by omega); have y2c : w.heap.size + 1 + 1 < y2.val.heap.size := (by omega)) | (go_at_call 31; (with_reducible refine (C3.out _).mono ?_); rintro e _ ⟨rfl, ⟨y3, rfl⟩⟩; have y3s := y3.size; (try simp at y3s); have y3a : w.heap.size < y3.val.heap.size := (by omega); have y3b : w.heap.size + 1 < y3.val.heap.size := (by omega); have y3c : w.heap.size + 1 + 1 < y3.val.heap.size := (by omega); obtain ⟨c0, c1, c2, c3, c4⟩ := two_z ((y3.below.block (w.heap.size + 1 + 1) (by omega)).trans ((y2.below.block (w.heap.size + 1 + 1) (by omega)).trans ((y1.below.block (w.heap.size + 1 + 1) (by simp)).trans (new_at2' w _ _ _ _))))))
      refine ret_ex rfl ?_
      simp [results, Try.results21, go_sem, c3, c4]
      refine Cls.of ?_
      repeat first | with_reducible exact Below.refl _ _ | with_reducible refine Below.setCell ?_ (by first | omega | (simp; done) | (simp; omega)) _ | with_reducible refine Below.alloc ?_ (by first | omega | (simp; done) | (simp; omega)) _ | with_reducible refine Below.drew ?_ | with_reducible refine Ext.on _ ?_ (by first | omega | (simp; done) | (simp; omega))
set_option maxHeartbeats 8000000 in
set_option maxRecDepth 20000 in
theorem Sub_calls (an ad bn bd : Int) (w : World) (h1 : In64 an) (h2 : In64 ad) (h3 : In64 bn) (h4 : In64 bd) :
    Calls Try.prog 11 #[.agg #[.int .i64 an, .int .i64 ad], .agg #[.int .i64 bn, .int .i64 bd]] w fun e w' => e = .returned (rsV (vaB an ad && vaB bn bd) (an * bd + -bn * ad) (ad.natAbs * bd.natAbs)) ∧ Cls w w' := by
  have C1 : Hid (∀ W, Calls Try.prog 21 #[.agg #[.int .i64 an, .int .i64 ad], .agg #[.int .i64 bn, .int .i64 bd], .func (.func 31) #[] #[]] W fun e w' => e = .returned (.tuple #[.agg #[.int .i64 (rsN (vaB an ad && vaB bn bd) (an * bd + -bn * ad) (ad.natAbs * bd.natAbs)), .int .i64 (rsD (vaB an ad && vaB bn bd) (an * bd + -bn * ad) (ad.natAbs * bd.natAbs))], .int .i64 (rsE (vaB an ad && vaB bn bd) (an * bd + -bn * ad) (ad.natAbs * bd.natAbs))]) ∧ Cls W w') := Lib.hid fun W => by
    refine compute_Sub an ad bn bd _ _ _ W h1 h2 h3 h4 _ _ rfl rfl (fun h => ?_) (fun h => Lib.hid fun W => ?_)
    · have e : (vaB an ad && vaB bn bd) = false := by rw [h]
      rw [e]; exact ⟨rfl, rfl, rfl⟩
    · rw [Bool.and_eq_true] at h
      obtain ⟨ha, hb⟩ := h
      obtain ⟨a1, _, _, _⟩ := vaB_rng ha
      obtain ⟨b1, _, _, _⟩ := vaB_rng hb
      obtain ⟨x, hx⟩ : ∃ x : Nat, ad = (x : Int) := ⟨ad.natAbs, by omega⟩
      obtain ⟨y, hy⟩ : ∃ y : Nat, bd = (y : Int) := ⟨bd.natAbs, by omega⟩
      subst hx hy
      have e : (vaB an x && vaB bn y) = true := by rw [ha, hb]; rfl
      rw [e]
      have := Sub1_calls an bn x y W ha hb
      rw [← rsV_ok] at this
      exact this
  have HV : rsV (vaB an ad && vaB bn bd) (an * bd + -bn * ad) (ad.natAbs * bd.natAbs) = .tuple #[.agg #[.int .i64 (rsN (vaB an ad && vaB bn bd) (an * bd + -bn * ad) (ad.natAbs * bd.natAbs)), .int .i64 (rsD (vaB an ad && vaB bn bd) (an * bd + -bn * ad) (ad.natAbs * bd.natAbs))], .int .i64 (rsE (vaB an ad && vaB bn bd) (an * bd + -bn * ad) (ad.natAbs * bd.natAbs))] := rfl
  rw [HV]
  generalize rsN (vaB an ad && vaB bn bd) (an * bd + -bn * ad) (ad.natAbs * bd.natAbs) = rn at *
  generalize rsD (vaB an ad && vaB bn bd) (an * bd + -bn * ad) (ad.natAbs * bd.natAbs) = rd at *
  generalize rsE (vaB an ad && vaB bn bd) (an * bd + -bn * ad) (ad.natAbs * bd.natAbs) = re at *
  clear HV h1 h2 h3 h4
  go_enter Try.func11, Try.ntmps11
  go_wp2_with (go_at_call 21; (with_reducible refine (C1.out _).mono ?_); rintro e _ ⟨rfl, ⟨y1, rfl⟩⟩; have y1s := y1.size; (try simp at y1s); have y1a : w.heap.size < y1.val.heap.size := (by omega); have y1b : w.heap.size + 1 < y1.val.heap.size := (by omega); have y1c : w.heap.size + 1 + 1 < y1.val.heap.size := (by omega); obtain ⟨c0, c1, c2, c3, c4⟩ := two_z ((y1.below.block (w.heap.size + 1 + 1) (by simp)).trans (new_at2' w _ _ _ _)))
  refine ret_ex rfl ?_
  simp [results, Try.results11, go_sem, c3, c4]
  refine Cls.of ?_
  repeat first | with_reducible exact Below.refl _ _ | with_reducible refine Below.setCell ?_ (by first | omega | (simp; done) | (simp; omega)) _ | with_reducible refine Below.alloc ?_ (by first | omega | (simp; done) | (simp; omega)) _ | with_reducible refine Below.drew ?_ | with_reducible refine Ext.on _ ?_ (by first | omega | (simp; done) | (simp; omega))
set_option maxHeartbeats 8000000 in
set_option maxRecDepth 20000 in
theorem compute_Mul (an ad bn bd : Int) (rn rd re : Int) (w : World) (h1 : In64 an) (h2 : In64 ad) (h3 : In64 bn) (h4 : In64 bd) (va vb : Bool) (hva : vaB an ad = va) (hvb : vaB bn bd = vb)
    (hno : (va && vb) = false → rn = 0 ∧ rd = 0 ∧ re = 1) (hC : (va && vb) = true → Hid (∀ W, Calls Try.prog 34 #[.agg #[.int .i64 an, .int .i64 ad], .agg #[.int .i64 bn, .int .i64 bd]] W fun e w' => e = .returned (.tuple #[.agg #[.int .i64 rn, .int .i64 rd], .int .i64 re]) ∧ Cls W w')) :
    Calls Try.prog 21 #[.agg #[.int .i64 an, .int .i64 ad], .agg #[.int .i64 bn, .int .i64 bd], .func (.func 34) #[] #[]] w fun e w' => e = .returned (.tuple #[.agg #[.int .i64 rn, .int .i64 rd], .int .i64 re]) ∧ Cls w w' := by
  have V1 := Lib.hid (fun W => Valid_calls an ad W h1.1 h1.2 h2.1 h2.2)
  have V2 := Lib.hid (fun W => Valid_calls bn bd W h3.1 h3.2 h4.1 h4.2)
  rw [hva] at V1
  rw [hvb] at V2
  clear h1 h2 h3 h4 hva hvb
  cases va
  · obtain ⟨rfl, rfl, rfl⟩ := hno rfl
    clear hno hC V2
    go_enter Try.func21, Try.ntmps21
    go_wp2_with (go_at_call 9; (with_reducible refine (V1.out _).mono ?_); rintro e _ ⟨rfl, ⟨y1, rfl⟩⟩; have y1s := y1.size; (try simp at y1s); have y1a : w.heap.size < y1.val.heap.size := (by omega); have y1b : w.heap.size + 1 < y1.val.heap.size := (by omega); have y1c : w.heap.size + 1 + 1 < y1.val.heap.size := (by omega); obtain ⟨c0, c1, c2, c3, c4⟩ := two_z ((y1.below.block (w.heap.size + 1 + 1) (by simp)).trans (new_at2' w _ _ _ _)))
    refine ret_ex rfl ?_
    simp [results, Try.results21, go_sem, c3, c4]
    refine Cls.of ?_
    repeat first | with_reducible exact Below.refl _ _ | with_reducible refine Below.setCell ?_ (by first | omega | (simp; done) | (simp; omega)) _ | with_reducible refine Below.alloc ?_ (by first | omega | (simp; done) | (simp; omega)) _ | with_reducible refine Below.drew ?_ | with_reducible refine Ext.on _ ?_ (by first | omega | (simp; done) | (simp; omega))
  · cases vb
    · obtain ⟨rfl, rfl, rfl⟩ := hno rfl
      clear hno hC
      go_enter Try.func21, Try.ntmps21
      go_wp2_with (first | (go_at_call 9; (with_reducible refine (V1.out _).mono ?_); rintro e _ ⟨rfl, ⟨y1, rfl⟩⟩; have y1s := y1.size; (try simp at y1s); have y1a : w.heap.size < y1.val.heap.size := (by omega); have y1b : w.heap.size + 1 < y1.val.heap.size := (by omega); have y1c : w.heap.size + 1 + 1 < y1.val.heap.size := (by omega)) | (go_at_call 9; (with_reducible refine (V2.out _).mono ?_); rintro e _ ⟨rfl, ⟨y2, rfl⟩⟩; have y2s := y2.size; (try simp at y2s); have y2a : w.heap.size < y2.val.heap.size := (by omega); have y2b : w.heap.size + 1 < y2.val.heap.size := (by omega); have y2c : w.heap.size + 1 + 1 < y2.val.heap.size := (by omega); obtain ⟨c0, c1, c2, c3, c4⟩ := two_z ((y2.below.block (w.heap.size + 1 + 1) (by omega)).trans ((y1.below.block (w.heap.size + 1 + 1) (by simp)).trans (new_at2' w _ _ _ _)))))
      refine ret_ex rfl ?_
      simp [results, Try.results21, go_sem, c3, c4]
      refine Cls.of ?_
      repeat first | with_reducible exact Below.refl _ _ | with_reducible refine Below.setCell ?_ (by first | omega | (simp; done) | (simp; omega)) _ | with_reducible refine Below.alloc ?_ (by first | omega | (simp; done) | (simp; omega)) _ | with_reducible refine Below.drew ?_ | with_reducible refine Ext.on _ ?_ (by first | omega | (simp; done) | (simp; omega))
    · have C3 := hC rfl
      clear hno hC
      go_enter Try.func21, Try.ntmps21
      go_wp2_with (first | (go_at_call 9; (with_reducible refine (V1.out _).mono ?_); rintro e _ ⟨rfl, ⟨y1, rfl⟩⟩; have y1s := y1.size; (try simp at y1s); have y1a : w.heap.size < y1.val.heap.size := (by omega); have y1b : w.heap.size + 1 < y1.val.heap.size := (by omega); have y1c : w.heap.size + 1 + 1 < y1.val.heap.size := (by omega)) | (go_at_call 9; (with_reducible refine (V2.out _).mono ?_); rintro e _ ⟨rfl, ⟨y2, rfl⟩⟩; have y2s := y2.size; (try simp at y2s); have y2a : w.heap.size < y2.val.heap.size := (by omega); have y2b : w.heap.size + 1 < y2.val.heap.size := (by omega); have y2c : w.heap.size + 1 + 1 < y2.val.heap.size := (by omega)) | (go_at_call 34; (with_reducible refine (C3.out _).mono ?_); rintro e _ ⟨rfl, ⟨y3, rfl⟩⟩; have y3s := y3.size; (try simp at y3s); have y3a : w.heap.size < y3.val.heap.size := (by omega); have y3b : w.heap.size + 1 < y3.val.heap.size := (by omega); have y3c : w.heap.size + 1 + 1 < y3.val.heap.size := (by omega); obtain ⟨c0, c1, c2, c3, c4⟩ := two_z ((y3.below.block (w.heap.size + 1 + 1) (by omega)).trans ((y2.below.block (w.heap.size + 1 + 1) (by omega)).trans ((y1.below.block (w.heap.size + 1 + 1) (by simp)).trans (new_at2' w _ _ _ _))))))
      refine ret_ex rfl ?_
      simp [results, Try.results21, go_sem, c3, c4]
      refine Cls.of ?_
      repeat first | with_reducible exact Below.refl _ _ | with_reducible refine Below.setCell ?_ (by first | omega | (simp; done) | (simp; omega)) _ | with_reducible refine Below.alloc ?_ (by first | omega | (simp; done) | (simp; omega)) _ | with_reducible refine Below.drew ?_ | with_reducible refine Ext.on _ ?_ (by first | omega | (simp; done) | (simp; omega))
set_option maxHeartbeats 8000000 in
set_option maxRecDepth 20000 in
theorem Mul_calls (an ad bn bd : Int) (w : World) (h1 : In64 an) (h2 : In64 ad) (h3 : In64 bn) (h4 : In64 bd) :
    Calls Try.prog 13 #[.agg #[.int .i64 an, .int .i64 ad], .agg #[.int .i64 bn, .int .i64 bd]] w fun e w' => e = .returned (rsV (vaB an ad && vaB bn bd) (an * bn) (ad.natAbs * bd.natAbs)) ∧ Cls w w' := by
  have C1 : Hid (∀ W, Calls Try.prog 21 #[.agg #[.int .i64 an, .int .i64 ad], .agg #[.int .i64 bn, .int .i64 bd], .func (.func 34) #[] #[]] W fun e w' => e = .returned (.tuple #[.agg #[.int .i64 (rsN (vaB an ad && vaB bn bd) (an * bn) (ad.natAbs * bd.natAbs)), .int .i64 (rsD (vaB an ad && vaB bn bd) (an * bn) (ad.natAbs * bd.natAbs))], .int .i64 (rsE (vaB an ad && vaB bn bd) (an * bn) (ad.natAbs * bd.natAbs))]) ∧ Cls W w') := Lib.hid fun W => by
    refine compute_Mul an ad bn bd _ _ _ W h1 h2 h3 h4 _ _ rfl rfl (fun h => ?_) (fun h => Lib.hid fun W => ?_)
    · have e : (vaB an ad && vaB bn bd) = false := by rw [h]
      rw [e]; exact ⟨rfl, rfl, rfl⟩
    · rw [Bool.and_eq_true] at h
      obtain ⟨ha, hb⟩ := h
      obtain ⟨a1, _, _, _⟩ := vaB_rng ha
      obtain ⟨b1, _, _, _⟩ := vaB_rng hb
      obtain ⟨x, hx⟩ : ∃ x : Nat, ad = (x : Int) := ⟨ad.natAbs, by omega⟩
      obtain ⟨y, hy⟩ : ∃ y : Nat, bd = (y : Int) := ⟨bd.natAbs, by omega⟩
      subst hx hy
      have e : (vaB an x && vaB bn y) = true := by rw [ha, hb]; rfl
      rw [e]
      have := times_calls an bn x y W ha hb
      rw [← rsV_ok] at this
      exact this
  have HV : rsV (vaB an ad && vaB bn bd) (an * bn) (ad.natAbs * bd.natAbs) = .tuple #[.agg #[.int .i64 (rsN (vaB an ad && vaB bn bd) (an * bn) (ad.natAbs * bd.natAbs)), .int .i64 (rsD (vaB an ad && vaB bn bd) (an * bn) (ad.natAbs * bd.natAbs))], .int .i64 (rsE (vaB an ad && vaB bn bd) (an * bn) (ad.natAbs * bd.natAbs))] := rfl
  rw [HV]
  generalize rsN (vaB an ad && vaB bn bd) (an * bn) (ad.natAbs * bd.natAbs) = rn at *
  generalize rsD (vaB an ad && vaB bn bd) (an * bn) (ad.natAbs * bd.natAbs) = rd at *
  generalize rsE (vaB an ad && vaB bn bd) (an * bn) (ad.natAbs * bd.natAbs) = re at *
  clear HV h1 h2 h3 h4
  go_enter Try.func13, Try.ntmps13
  go_wp2_with (go_at_call 21; (with_reducible refine (C1.out _).mono ?_); rintro e _ ⟨rfl, ⟨y1, rfl⟩⟩; have y1s := y1.size; (try simp at y1s); have y1a : w.heap.size < y1.val.heap.size := (by omega); have y1b : w.heap.size + 1 < y1.val.heap.size := (by omega); have y1c : w.heap.size + 1 + 1 < y1.val.heap.size := (by omega); obtain ⟨c0, c1, c2, c3, c4⟩ := two_z ((y1.below.block (w.heap.size + 1 + 1) (by simp)).trans (new_at2' w _ _ _ _)))
  refine ret_ex rfl ?_
  simp [results, Try.results13, go_sem, c3, c4]
  refine Cls.of ?_
  repeat first | with_reducible exact Below.refl _ _ | with_reducible refine Below.setCell ?_ (by first | omega | (simp; done) | (simp; omega)) _ | with_reducible refine Below.alloc ?_ (by first | omega | (simp; done) | (simp; omega)) _ | with_reducible refine Below.drew ?_ | with_reducible refine Ext.on _ ?_ (by first | omega | (simp; done) | (simp; omega))
set_option maxHeartbeats 8000000 in
set_option maxRecDepth 20000 in
theorem compute_Div (an ad bn bd : Int) (rn rd re : Int) (w : World) (h1 : In64 an) (h2 : In64 ad) (h3 : In64 bn) (h4 : In64 bd) (va vb : Bool) (hva : vaB an ad = va) (hvb : vaB bn bd = vb)
    (hno : (va && vb) = false → rn = 0 ∧ rd = 0 ∧ re = 1) (hC : (va && vb) = true → Hid (∀ W, Calls Try.prog 36 #[.agg #[.int .i64 an, .int .i64 ad], .agg #[.int .i64 bn, .int .i64 bd]] W fun e w' => e = .returned (.tuple #[.agg #[.int .i64 rn, .int .i64 rd], .int .i64 re]) ∧ Cls W w')) :
    Calls Try.prog 21 #[.agg #[.int .i64 an, .int .i64 ad], .agg #[.int .i64 bn, .int .i64 bd], .func (.func 36) #[] #[]] w fun e w' => e = .returned (.tuple #[.agg #[.int .i64 rn, .int .i64 rd], .int .i64 re]) ∧ Cls w w' := by
  have V1 := Lib.hid (fun W => Valid_calls an ad W h1.1 h1.2 h2.1 h2.2)
  have V2 := Lib.hid (fun W => Valid_calls bn bd W h3.1 h3.2 h4.1 h4.2)
  rw [hva] at V1
  rw [hvb] at V2
  clear h1 h2 h3 h4 hva hvb
  cases va
  · obtain ⟨rfl, rfl, rfl⟩ := hno rfl
    clear hno hC V2
    go_enter Try.func21, Try.ntmps21
    go_wp2_with (go_at_call 9; (with_reducible refine (V1.out _).mono ?_); rintro e _ ⟨rfl, ⟨y1, rfl⟩⟩; have y1s := y1.size; (try simp at y1s); have y1a : w.heap.size < y1.val.heap.size := (by omega); have y1b : w.heap.size + 1 < y1.val.heap.size := (by omega); have y1c : w.heap.size + 1 + 1 < y1.val.heap.size := (by omega); obtain ⟨c0, c1, c2, c3, c4⟩ := two_z ((y1.below.block (w.heap.size + 1 + 1) (by simp)).trans (new_at2' w _ _ _ _)))
    refine ret_ex rfl ?_
    simp [results, Try.results21, go_sem, c3, c4]
    refine Cls.of ?_
    repeat first | with_reducible exact Below.refl _ _ | with_reducible refine Below.setCell ?_ (by first | omega | (simp; done) | (simp; omega)) _ | with_reducible refine Below.alloc ?_ (by first | omega | (simp; done) | (simp; omega)) _ | with_reducible refine Below.drew ?_ | with_reducible refine Ext.on _ ?_ (by first | omega | (simp; done) | (simp; omega))
  · cases vb
    · obtain ⟨rfl, rfl, rfl⟩ := hno rfl
      clear hno hC
      go_enter Try.func21, Try.ntmps21
      go_wp2_with (first | (go_at_call 9; (with_reducible refine (V1.out _).mono ?_); rintro e _ ⟨rfl, ⟨y1, rfl⟩⟩; have y1s := y1.size; (try simp at y1s); have y1a : w.heap.size < y1.val.heap.size := (by omega); have y1b : w.heap.size + 1 < y1.val.heap.size := (by omega); have y1c : w.heap.size + 1 + 1 < y1.val.heap.size := (by omega)) | (go_at_call 9; (with_reducible refine (V2.out _).mono ?_); rintro e _ ⟨rfl, ⟨y2, rfl⟩⟩; have y2s := y2.size; (try simp at y2s); have y2a : w.heap.size < y2.val.heap.size := (by omega); have y2b : w.heap.size + 1 < y2.val.heap.size := (by omega); have y2c : w.heap.size + 1 + 1 < y2.val.heap.size := (by omega); obtain ⟨c0, c1, c2, c3, c4⟩ := two_z ((y2.below.block (w.heap.size + 1 + 1) (by omega)).trans ((y1.below.block (w.heap.size + 1 + 1) (by simp)).trans (new_at2' w _ _ _ _)))))
      refine ret_ex rfl ?_
      simp [results, Try.results21, go_sem, c3, c4]
      refine Cls.of ?_
      repeat first | with_reducible exact Below.refl _ _ | with_reducible refine Below.setCell ?_ (by first | omega | (simp; done) | (simp; omega)) _ | with_reducible refine Below.alloc ?_ (by first | omega | (simp; done) | (simp; omega)) _ | with_reducible refine Below.drew ?_ | with_reducible refine Ext.on _ ?_ (by first | omega | (simp; done) | (simp; omega))
    · have C3 := hC rfl
      clear hno hC
      go_enter Try.func21, Try.ntmps21
      go_wp2_with (first | (go_at_call 9; (with_reducible refine (V1.out _).mono ?_); rintro e _ ⟨rfl, ⟨y1, rfl⟩⟩; have y1s := y1.size; (try simp at y1s); have y1a : w.heap.size < y1.val.heap.size := (by omega); have y1b : w.heap.size + 1 < y1.val.heap.size := (by omega); have y1c : w.heap.size + 1 + 1 < y1.val.heap.size := (by omega)) | (go_at_call 9; (with_reducible refine (V2.out _).mono ?_); rintro e _ ⟨rfl, ⟨y2, rfl⟩⟩; have y2s := y2.size; (try simp at y2s); have y2a : w.heap.size < y2.val.heap.size := (by omega); have y2b : w.heap.size + 1 < y2.val.heap.size := (by omega); have y2c : w.heap.size + 1 + 1 < y2.val.heap.size := (by omega)) | (go_at_call 36; (with_reducible refine (C3.out _).mono ?_); rintro e _ ⟨rfl, ⟨y3, rfl⟩⟩; have y3s := y3.size; (try simp at y3s); have y3a : w.heap.size < y3.val.heap.size := (by omega); have y3b : w.heap.size + 1 < y3.val.heap.size := (by omega); have y3c : w.heap.size + 1 + 1 < y3.val.heap.size := (by omega); obtain ⟨c0, c1, c2, c3, c4⟩ := two_z ((y3.below.block (w.heap.size + 1 + 1) (by omega)).trans ((y2.below.block (w.heap.size + 1 + 1) (by omega)).trans ((y1.below.block (w.heap.size + 1 + 1) (by simp)).trans (new_at2' w _ _ _ _))))))
      refine ret_ex rfl ?_
      simp [results, Try.results21, go_sem, c3, c4]
      refine Cls.of ?_
      repeat first | with_reducible exact Below.refl _ _ | with_reducible refine Below.setCell ?_ (by first | omega | (simp; done) | (simp; omega)) _ | with_reducible refine Below.alloc ?_ (by first | omega | (simp; done) | (simp; omega)) _ | with_reducible refine Below.drew ?_ | with_reducible refine Ext.on _ ?_ (by first | omega | (simp; done) | (simp; omega))
set_option maxHeartbeats 8000000 in
set_option maxRecDepth 20000 in
theorem Div_calls (an ad bn bd : Int) (w : World) (h1 : In64 an) (h2 : In64 ad) (h3 : In64 bn) (h4 : In64 bd) :
    Calls Try.prog 15 #[.agg #[.int .i64 an, .int .i64 ad], .agg #[.int .i64 bn, .int .i64 bd]] w fun e w' => e = .returned (rsV (vaB an ad && vaB bn bd && !(bn == 0)) (an * (if bn < 0 then -bd else bd)) (ad.natAbs * bn.natAbs)) ∧ Cls w w' := by
  have C1 : Hid (∀ W, Calls Try.prog 21 #[.agg #[.int .i64 an, .int .i64 ad], .agg #[.int .i64 bn, .int .i64 bd], .func (.func 36) #[] #[]] W fun e w' => e = .returned (.tuple #[.agg #[.int .i64 (rsN (vaB an ad && vaB bn bd && !(bn == 0)) (an * (if bn < 0 then -bd else bd)) (ad.natAbs * bn.natAbs)), .int .i64 (rsD (vaB an ad && vaB bn bd && !(bn == 0)) (an * (if bn < 0 then -bd else bd)) (ad.natAbs * bn.natAbs))], .int .i64 (rsE (vaB an ad && vaB bn bd && !(bn == 0)) (an * (if bn < 0 then -bd else bd)) (ad.natAbs * bn.natAbs))]) ∧ Cls W w') := Lib.hid fun W => by
    refine compute_Div an ad bn bd _ _ _ W h1 h2 h3 h4 _ _ rfl rfl (fun h => ?_) (fun h => Lib.hid fun W => ?_)
    · have e : (vaB an ad && vaB bn bd && !(bn == 0)) = false := by rw [h]; rfl
      rw [e]; exact ⟨rfl, rfl, rfl⟩
    · rw [Bool.and_eq_true] at h
      obtain ⟨ha, hb⟩ := h
      obtain ⟨a1, _, _, _⟩ := vaB_rng ha
      obtain ⟨b1, _, _, _⟩ := vaB_rng hb
      obtain ⟨x, hx⟩ : ∃ x : Nat, ad = (x : Int) := ⟨ad.natAbs, by omega⟩
      obtain ⟨y, hy⟩ : ∃ y : Nat, bd = (y : Int) := ⟨bd.natAbs, by omega⟩
      subst hx hy
      by_cases h0 : bn = 0
      · subst h0
        have e : (vaB an x && vaB 0 y && !((0 : Int) == 0)) = false := by rw [ha, hb]; rfl
        rw [e]
        exact Div1_zero an x y W
      · have e : (vaB an x && vaB bn y && !(bn == 0)) = true := by rw [ha, hb]; simpa using h0
        rw [e]
        have := Div1_calls an bn x y W ha hb h0
        rw [← rsV_ok] at this
        exact this
  have HV : rsV (vaB an ad && vaB bn bd && !(bn == 0)) (an * (if bn < 0 then -bd else bd)) (ad.natAbs * bn.natAbs) = .tuple #[.agg #[.int .i64 (rsN (vaB an ad && vaB bn bd && !(bn == 0)) (an * (if bn < 0 then -bd else bd)) (ad.natAbs * bn.natAbs)), .int .i64 (rsD (vaB an ad && vaB bn bd && !(bn == 0)) (an * (if bn < 0 then -bd else bd)) (ad.natAbs * bn.natAbs))], .int .i64 (rsE (vaB an ad && vaB bn bd && !(bn == 0)) (an * (if bn < 0 then -bd else bd)) (ad.natAbs * bn.natAbs))] := rfl
  rw [HV]
  generalize rsN (vaB an ad && vaB bn bd && !(bn == 0)) (an * (if bn < 0 then -bd else bd)) (ad.natAbs * bn.natAbs) = rn at *
  generalize rsD (vaB an ad && vaB bn bd && !(bn == 0)) (an * (if bn < 0 then -bd else bd)) (ad.natAbs * bn.natAbs) = rd at *
  generalize rsE (vaB an ad && vaB bn bd && !(bn == 0)) (an * (if bn < 0 then -bd else bd)) (ad.natAbs * bn.natAbs) = re at *
  clear HV h1 h2 h3 h4
  go_enter Try.func15, Try.ntmps15
  go_wp2_with (go_at_call 21; (with_reducible refine (C1.out _).mono ?_); rintro e _ ⟨rfl, ⟨y1, rfl⟩⟩; have y1s := y1.size; (try simp at y1s); have y1a : w.heap.size < y1.val.heap.size := (by omega); have y1b : w.heap.size + 1 < y1.val.heap.size := (by omega); have y1c : w.heap.size + 1 + 1 < y1.val.heap.size := (by omega); obtain ⟨c0, c1, c2, c3, c4⟩ := two_z ((y1.below.block (w.heap.size + 1 + 1) (by simp)).trans (new_at2' w _ _ _ _)))
  refine ret_ex rfl ?_
  simp [results, Try.results15, go_sem, c3, c4]
  refine Cls.of ?_
  repeat first | with_reducible exact Below.refl _ _ | with_reducible refine Below.setCell ?_ (by first | omega | (simp; done) | (simp; omega)) _ | with_reducible refine Below.alloc ?_ (by first | omega | (simp; done) | (simp; omega)) _ | with_reducible refine Below.drew ?_ | with_reducible refine Ext.on _ ?_ (by first | omega | (simp; done) | (simp; omega))
end Go.Proofs.Ythlaejodajdioaa
