/-
  The key of a row.
-/
import Derived.Test.YtdmhmlnfoocnjaaGreatDoorK09
import Derived.Test.YtdmhmlnfoocnjaaGreatDoorK26
import Derived.Test.YtdmhmlnfoocnjaaGreatDoorK12
import Derived.Deep.MidRow
import Derived.Deep.WholeRow
import Derived.Test.YtdmhmlnfoocnjaaGreatDoorK20
set_option linter.unusedVariables false
namespace Go.Proofs.YtdmhmlnfoocnjaaGreatDoor
open Go Go.RowKit Go.Deep
theorem set3_app : ∀ (A R : List Value) (x0 x1 x2 a b c : Value) (n : Nat), A.length = n → (((A ++ x0 :: x1 :: x2 :: R).set n a).set (n + 1) b).set (n + 2) c = A ++ a :: b :: c :: R
  | [], R, x0, x1, x2, a, b, c, n, h => by
    obtain rfl : n = 0 := h.symm
    rfl
  | y :: A, R, x0, x1, x2, a, b, c, n, h => by
    obtain ⟨m, rfl⟩ : ∃ m, n = m + 1 := ⟨A.length, by simpa using h.symm⟩
    have := set3_app A R x0 x1 x2 a b c m (by simpa using h)
    simp only [List.cons_append, List.set_cons_succ, show m + 1 + 1 = (m + 1) + 1 from rfl, show m + 1 + 2 = (m + 2) + 1 from rfl]
    rw [this]
theorem flatK_app (l m : List Vl) : flatK (l ++ m) = flatK l ++ flatK m := by unfold flatK; rw [List.flatMap_append]
theorem flatK_len (l : List Vl) : (flatK l).length = l.length * 3 := by
  induction l with
  | nil => rfl
  | cons v l ih =>
    have : flatK (v :: l) = vlC v ++ flatK l := by simp [flatK]
    rw [this, List.length_append, ih, List.length_cons]
    have : (vlC v).length = 3 := rfl
    omega
theorem padK_set {l : List Vl} {j : Nat} (h : l.length = j) (hj : j < 8) (v : Vl) : ((((flatK (padK l)).set (j * 3) (.int .i64 v.k)).set (j * 3 + 1) (.int .i64 v.n)).set (j * 3 + 2) (.string v.s)) = flatK (padK (l ++ [v])) := by
  have e1 : padK l = l ++ Vl.z :: List.replicate (7 - j) Vl.z := by
    unfold padK
    rw [h, show 8 - j = (7 - j) + 1 from by omega, List.replicate_succ]
  have e2 : padK (l ++ [v]) = l ++ v :: List.replicate (7 - j) Vl.z := by
    unfold padK
    rw [List.length_append, h, List.append_assoc]
    rw [show 8 - (j + [v].length) = 7 - j from by simp only [List.length_singleton]; omega]
    rfl
  have e3 : ∀ x r, flatK (l ++ x :: r) = flatK l ++ (vlC x ++ flatK r) := fun x r => by rw [flatK_app]; simp [flatK]
  rw [e1, e2, e3, e3]
  exact set3_app (flatK l) _ _ _ _ _ _ _ (j * 3) (by rw [flatK_len, h])
theorem keyW_next (g : Nat → Int) (j : Nat) (f : Nat → Vl) : keyW g (j + 1) f = keyW g j f ++ [f (g j).toNat] := by
  unfold keyW
  rw [List.range_succ, List.map_append]
  rfl
theorem keyW_len (g : Nat → Int) (j : Nat) (f : Nat → Vl) : (keyW g j f).length = j := by simp [keyW]
theorem nulL_next (l : List Vl) (v : Vl) : nulL (l ++ [v]) = (nulL l || (v.k == 0)) := by simp [nulL]
theorem infoK : (Tryz.prog.info? 151).map (·.size) = some 24 := by kernel_rfl
theorem flatK_one (l : List Vl) : ∀ u ∈ flatK l, u.oneCell' = true := by
  intro u h
  obtain ⟨v, _, hv⟩ := List.mem_flatMap.1 h
  simp only [vlC, List.mem_cons, List.not_mem_nil, or_false] at hv
  rcases hv with rfl | rfl | rfl <;> rfl
theorem below_setCells {b : Nat} {w0 : World} : ∀ {w : World}, Below b w0 w → ∀ (g o : Nat) (vs : List Value), b ≤ g → Below b w0 (w.setCells g o vs)
  | w, h, g, o, [], hb => h
  | w, h, g, o, v :: r, hb => by
    rw [World.setCells]
    exact below_setCells (h.setCell hb _) g (o + 1) r hb
def KeyB (w : World) (base b : Nat) (l : List Vl) : Prop := w.ownsRow base 151 1 (.slice (some ⟨b, 0, none⟩) 24 24) 24 (flatK (padK l))
set_option maxHeartbeats 8000000 in
set_option maxRecDepth 20000 in
theorem keyOf_calls (s cs : Sl) (f : Nat → Vl) (g : Nat → Int) (w : World) (hs : SlAt w 3 s (fun j => vlC (f j))) (hc : SlAt w 1 cs (intC g)) (hin : ∀ i, i < cs.len → 0 ≤ g i ∧ g i < s.len) (h8 : cs.len ≤ 8) :
    Calls Tryz.prog 116 #[.slice s.a s.len s.cap, .slice cs.a cs.len cs.cap] w fun r w' => r = .returned (.tuple #[keyV (keyW g cs.len f), .bool (!nulL (keyW g cs.len f))]) ∧ Cls w w' := by
  have hle := hs.1
  have hmax := hs.2.1
  have hle2 := hc.1
  have hmax2 := hc.2.1
  unfold maxLen at hmax hmax2
  have HS := Lib.hid hs.2.2.2
  have HC := Lib.hid hc.2.2.2
  have HIN := Lib.hid hin
  clear hs hc hin
  obtain ⟨sa, sn, sc⟩ := s
  obtain ⟨ca, cn, cc⟩ := cs
  simp only at hle hmax hle2 hmax2 HS HC HIN h8 ⊢
  go_enter Tryz.func116, Tryz.ntmps116
  go_wp2_with fail
  have hk0 : KeyB ((w.alloc (.cells #[.int .i64 0, .int .i64 0, .string ⟨#[]⟩, .int .i64 0, .int .i64 0, .string ⟨#[]⟩, .int .i64 0, .int .i64 0, .string ⟨#[]⟩, .int .i64 0, .int .i64 0, .string ⟨#[]⟩, .int .i64 0, .int .i64 0, .string ⟨#[]⟩, .int .i64 0, .int .i64 0, .string ⟨#[]⟩, .int .i64 0, .int .i64 0, .string ⟨#[]⟩, .int .i64 0, .int .i64 0, .string ⟨#[]⟩] 151)).alloc (.cells #[.int .i64 0, .int .i64 0, .string ⟨#[]⟩, .int .i64 0, .int .i64 0, .string ⟨#[]⟩, .int .i64 0, .int .i64 0, .string ⟨#[]⟩, .int .i64 0, .int .i64 0, .string ⟨#[]⟩, .int .i64 0, .int .i64 0, .string ⟨#[]⟩, .int .i64 0, .int .i64 0, .string ⟨#[]⟩, .int .i64 0, .int .i64 0, .string ⟨#[]⟩, .int .i64 0, .int .i64 0, .string ⟨#[]⟩] 151)) w.heap.size (w.heap.size + 1) [] := by
    have := World.ownsRow_lit (base := w.heap.size) (e := 151) (size := 1) (w.alloc (.cells #[.int .i64 0, .int .i64 0, .string ⟨#[]⟩, .int .i64 0, .int .i64 0, .string ⟨#[]⟩, .int .i64 0, .int .i64 0, .string ⟨#[]⟩, .int .i64 0, .int .i64 0, .string ⟨#[]⟩, .int .i64 0, .int .i64 0, .string ⟨#[]⟩, .int .i64 0, .int .i64 0, .string ⟨#[]⟩, .int .i64 0, .int .i64 0, .string ⟨#[]⟩, .int .i64 0, .int .i64 0, .string ⟨#[]⟩] 151)) #[.int .i64 0, .int .i64 0, .string ⟨#[]⟩, .int .i64 0, .int .i64 0, .string ⟨#[]⟩, .int .i64 0, .int .i64 0, .string ⟨#[]⟩, .int .i64 0, .int .i64 0, .string ⟨#[]⟩, .int .i64 0, .int .i64 0, .string ⟨#[]⟩, .int .i64 0, .int .i64 0, .string ⟨#[]⟩, .int .i64 0, .int .i64 0, .string ⟨#[]⟩, .int .i64 0, .int .i64 0, .string ⟨#[]⟩] 24 (by simp) (by unfold maxLen; omega) rfl
    rw [World.size_alloc] at this
    exact this
  have HK0 := Lib.hid hk0
  have hbl2 : ((w.alloc (.cells #[.int .i64 0, .int .i64 0, .string ⟨#[]⟩, .int .i64 0, .int .i64 0, .string ⟨#[]⟩, .int .i64 0, .int .i64 0, .string ⟨#[]⟩, .int .i64 0, .int .i64 0, .string ⟨#[]⟩, .int .i64 0, .int .i64 0, .string ⟨#[]⟩, .int .i64 0, .int .i64 0, .string ⟨#[]⟩, .int .i64 0, .int .i64 0, .string ⟨#[]⟩, .int .i64 0, .int .i64 0, .string ⟨#[]⟩] 151)).alloc (.cells #[.int .i64 0, .int .i64 0, .string ⟨#[]⟩, .int .i64 0, .int .i64 0, .string ⟨#[]⟩, .int .i64 0, .int .i64 0, .string ⟨#[]⟩, .int .i64 0, .int .i64 0, .string ⟨#[]⟩, .int .i64 0, .int .i64 0, .string ⟨#[]⟩, .int .i64 0, .int .i64 0, .string ⟨#[]⟩, .int .i64 0, .int .i64 0, .string ⟨#[]⟩, .int .i64 0, .int .i64 0, .string ⟨#[]⟩] 151)).heap[w.heap.size]? = some (.cells #[.int .i64 0, .int .i64 0, .string ⟨#[]⟩, .int .i64 0, .int .i64 0, .string ⟨#[]⟩, .int .i64 0, .int .i64 0, .string ⟨#[]⟩, .int .i64 0, .int .i64 0, .string ⟨#[]⟩, .int .i64 0, .int .i64 0, .string ⟨#[]⟩, .int .i64 0, .int .i64 0, .string ⟨#[]⟩, .int .i64 0, .int .i64 0, .string ⟨#[]⟩, .int .i64 0, .int .i64 0, .string ⟨#[]⟩] 151) := by
    rw [(((Below.refl _ _).alloc (Nat.le_refl _) _) : Below (w.alloc (.cells #[.int .i64 0, .int .i64 0, .string ⟨#[]⟩, .int .i64 0, .int .i64 0, .string ⟨#[]⟩, .int .i64 0, .int .i64 0, .string ⟨#[]⟩, .int .i64 0, .int .i64 0, .string ⟨#[]⟩, .int .i64 0, .int .i64 0, .string ⟨#[]⟩, .int .i64 0, .int .i64 0, .string ⟨#[]⟩, .int .i64 0, .int .i64 0, .string ⟨#[]⟩, .int .i64 0, .int .i64 0, .string ⟨#[]⟩] 151)).heap.size (w.alloc (.cells #[.int .i64 0, .int .i64 0, .string ⟨#[]⟩, .int .i64 0, .int .i64 0, .string ⟨#[]⟩, .int .i64 0, .int .i64 0, .string ⟨#[]⟩, .int .i64 0, .int .i64 0, .string ⟨#[]⟩, .int .i64 0, .int .i64 0, .string ⟨#[]⟩, .int .i64 0, .int .i64 0, .string ⟨#[]⟩, .int .i64 0, .int .i64 0, .string ⟨#[]⟩, .int .i64 0, .int .i64 0, .string ⟨#[]⟩] 151)) ((w.alloc (.cells #[.int .i64 0, .int .i64 0, .string ⟨#[]⟩, .int .i64 0, .int .i64 0, .string ⟨#[]⟩, .int .i64 0, .int .i64 0, .string ⟨#[]⟩, .int .i64 0, .int .i64 0, .string ⟨#[]⟩, .int .i64 0, .int .i64 0, .string ⟨#[]⟩, .int .i64 0, .int .i64 0, .string ⟨#[]⟩, .int .i64 0, .int .i64 0, .string ⟨#[]⟩, .int .i64 0, .int .i64 0, .string ⟨#[]⟩] 151)).alloc (.cells #[.int .i64 0, .int .i64 0, .string ⟨#[]⟩, .int .i64 0, .int .i64 0, .string ⟨#[]⟩, .int .i64 0, .int .i64 0, .string ⟨#[]⟩, .int .i64 0, .int .i64 0, .string ⟨#[]⟩, .int .i64 0, .int .i64 0, .string ⟨#[]⟩, .int .i64 0, .int .i64 0, .string ⟨#[]⟩, .int .i64 0, .int .i64 0, .string ⟨#[]⟩, .int .i64 0, .int .i64 0, .string ⟨#[]⟩] 151))).block w.heap.size (by simp)]
    exact heap_alloc_new w _
  have HBL := Lib.hid hbl2
  have HB0 : Hid (Below w.heap.size w ((w.alloc (.cells #[.int .i64 0, .int .i64 0, .string ⟨#[]⟩, .int .i64 0, .int .i64 0, .string ⟨#[]⟩, .int .i64 0, .int .i64 0, .string ⟨#[]⟩, .int .i64 0, .int .i64 0, .string ⟨#[]⟩, .int .i64 0, .int .i64 0, .string ⟨#[]⟩, .int .i64 0, .int .i64 0, .string ⟨#[]⟩, .int .i64 0, .int .i64 0, .string ⟨#[]⟩, .int .i64 0, .int .i64 0, .string ⟨#[]⟩] 151)).alloc (.cells #[.int .i64 0, .int .i64 0, .string ⟨#[]⟩, .int .i64 0, .int .i64 0, .string ⟨#[]⟩, .int .i64 0, .int .i64 0, .string ⟨#[]⟩, .int .i64 0, .int .i64 0, .string ⟨#[]⟩, .int .i64 0, .int .i64 0, .string ⟨#[]⟩, .int .i64 0, .int .i64 0, .string ⟨#[]⟩, .int .i64 0, .int .i64 0, .string ⟨#[]⟩, .int .i64 0, .int .i64 0, .string ⟨#[]⟩] 151))) := Lib.hid (by repeat first|with_reducible exact Below.refl _ _|with_reducible refine Below.setCell ?_ (by first|omega|(simp;done)|(simp;omega)) _|with_reducible refine Below.alloc ?_ (by first|omega|(simp;done)|(simp;omega)) _|with_reducible refine Below.drew ?_|with_reducible refine Ext.on _ ?_ (by first|omega|(simp;done)|(simp;omega)))
  have h0s : ((w.alloc (.cells #[.int .i64 0, .int .i64 0, .string ⟨#[]⟩, .int .i64 0, .int .i64 0, .string ⟨#[]⟩, .int .i64 0, .int .i64 0, .string ⟨#[]⟩, .int .i64 0, .int .i64 0, .string ⟨#[]⟩, .int .i64 0, .int .i64 0, .string ⟨#[]⟩, .int .i64 0, .int .i64 0, .string ⟨#[]⟩, .int .i64 0, .int .i64 0, .string ⟨#[]⟩, .int .i64 0, .int .i64 0, .string ⟨#[]⟩] 151)).alloc (.cells #[.int .i64 0, .int .i64 0, .string ⟨#[]⟩, .int .i64 0, .int .i64 0, .string ⟨#[]⟩, .int .i64 0, .int .i64 0, .string ⟨#[]⟩, .int .i64 0, .int .i64 0, .string ⟨#[]⟩, .int .i64 0, .int .i64 0, .string ⟨#[]⟩, .int .i64 0, .int .i64 0, .string ⟨#[]⟩, .int .i64 0, .int .i64 0, .string ⟨#[]⟩, .int .i64 0, .int .i64 0, .string ⟨#[]⟩] 151)).heap.size = w.heap.size + 2 := by simp
  clear hk0 hbl2
  generalize ((w.alloc (.cells #[.int .i64 0, .int .i64 0, .string ⟨#[]⟩, .int .i64 0, .int .i64 0, .string ⟨#[]⟩, .int .i64 0, .int .i64 0, .string ⟨#[]⟩, .int .i64 0, .int .i64 0, .string ⟨#[]⟩, .int .i64 0, .int .i64 0, .string ⟨#[]⟩, .int .i64 0, .int .i64 0, .string ⟨#[]⟩, .int .i64 0, .int .i64 0, .string ⟨#[]⟩, .int .i64 0, .int .i64 0, .string ⟨#[]⟩] 151)).alloc (.cells #[.int .i64 0, .int .i64 0, .string ⟨#[]⟩, .int .i64 0, .int .i64 0, .string ⟨#[]⟩, .int .i64 0, .int .i64 0, .string ⟨#[]⟩, .int .i64 0, .int .i64 0, .string ⟨#[]⟩, .int .i64 0, .int .i64 0, .string ⟨#[]⟩, .int .i64 0, .int .i64 0, .string ⟨#[]⟩, .int .i64 0, .int .i64 0, .string ⟨#[]⟩, .int .i64 0, .int .i64 0, .string ⟨#[]⟩] 151)) = W0 at *
  go_loopw [7, 12] (fun u i wr => ∃ j : Nat, j ≤ cn ∧ i = .int .i64 j ∧ u = .bool (!nulL (keyW g j f)) ∧ KeyB wr w.heap.size (w.heap.size + 1) (keyW g j f) ∧ wr.heap[w.heap.size]? = some (.cells #[.int .i64 0, .int .i64 0, .string ⟨#[]⟩, .int .i64 0, .int .i64 0, .string ⟨#[]⟩, .int .i64 0, .int .i64 0, .string ⟨#[]⟩, .int .i64 0, .int .i64 0, .string ⟨#[]⟩, .int .i64 0, .int .i64 0, .string ⟨#[]⟩, .int .i64 0, .int .i64 0, .string ⟨#[]⟩, .int .i64 0, .int .i64 0, .string ⟨#[]⟩, .int .i64 0, .int .i64 0, .string ⟨#[]⟩] 151) ∧ wr.heap.size = w.heap.size + 2 ∧ Below w.heap.size w wr) (fun _ i _ => cn - (intOf i).toNat)
  case atStart => exact ⟨0, Nat.zero_le _, rfl, rfl, HK0.out, HBL.out, h0s, HB0.out⟩
  case round =>
    obtain ⟨j, hj, rfl, rfl, hk, hb, hsz, hbw⟩ := hrel
    have HK := Lib.hid hk
    have HB := Lib.hid hb
    have HW := Lib.hid hbw
    clear HK0 HBL HB0 hk hb hbw
    by_cases hlt : j < cn
    · obtain ⟨b, off, ha, hb2, hc⟩ := HC.out j hlt
      subst ha
      have p0 := hc 0 (by omega)
      simp only [intC, List.getElem?_cons_zero, Nat.add_zero, Nat.mul_one] at p0
      rw [← HW.out.cell (p := ⟨b, _, none⟩) hb2] at p0
      have hb3 : b < wr.heap.size := by omega
      obtain ⟨hg0, hg1⟩ := HIN.out j hlt
      obtain ⟨m, hm⟩ : ∃ m : Nat, g j = m := ⟨(g j).toNat, by omega⟩
      rw [hm] at p0 hg1
      obtain ⟨rb, roff, hra, hrb, hrc⟩ := HS.out m (by omega)
      subst hra
      have q0 := hrc 0 (by omega)
      have q1 := hrc 1 (by omega)
      have q2 := hrc 2 (by omega)
      simp only [vlC, List.getElem?_cons_zero, List.getElem?_cons_succ, Nat.add_zero] at q0 q1 q2
      rw [← HW.out.cell (p := ⟨rb, _, none⟩) hrb] at q0 q1 q2
      have hrb3 : rb < wr.heap.size := by omega
      have HNX : Hid (keyW g (j + 1) f = keyW g j f ++ [f m]) := Lib.hid (by rw [keyW_next, hm]; rfl)
      have HLN : Hid ((keyW g j f).length = j) := Lib.hid (keyW_len g j f)
      clear hc hrc hg0 hm HC HS HIN
      generalize hkn : keyW g (j + 1) f = kn at *
      have HKN := Lib.hid hkn
      clear hkn
      generalize keyW g j f = kl at *
      generalize f m = v at *
      obtain ⟨vk, vn, vs⟩ := v
      simp only at q0 q1 q2
      have e0 : wr.cell? ⟨w.heap.size + 1, j * 3, none⟩ = (flatK (padK kl))[j * 3]? := World.ownsRow.cellAt HK.out (j * 3) (by omega)
      have e1 : wr.cell? ⟨w.heap.size + 1, j * 3 + 1, none⟩ = (flatK (padK kl))[j * 3 + 1]? := World.ownsRow.cellAt HK.out (j * 3 + 1) (by omega)
      have e2 : wr.cell? ⟨w.heap.size + 1, j * 3 + 2, none⟩ = (flatK (padK kl))[j * 3 + 2]? := World.ownsRow.cellAt HK.out (j * 3 + 2) (by omega)
      have f0 : wr.frozen? ⟨w.heap.size + 1, j * 3, none⟩ = false := World.ownsRow.frozenAt HK.out _
      have f1 : wr.frozen? ⟨w.heap.size + 1, j * 3 + 1, none⟩ = false := World.ownsRow.frozenAt HK.out _
      have f2 : wr.frozen? ⟨w.heap.size + 1, j * 3 + 2, none⟩ = false := World.ownsRow.frozenAt HK.out _
      have hpl : (flatK (padK kl)).length = 24 := HK.out.1
      obtain ⟨y0, s0⟩ : ∃ y, wr.cell? ⟨w.heap.size + 1, j * 3, none⟩ = some y := ⟨_, by rw [e0, List.getElem?_eq_getElem (by omega)]⟩
      obtain ⟨y1, s1⟩ : ∃ y, wr.cell? ⟨w.heap.size + 1, j * 3 + 1, none⟩ = some y := ⟨_, by rw [e1, List.getElem?_eq_getElem (by omega)]⟩
      obtain ⟨y2, s2⟩ : ∃ y, wr.cell? ⟨w.heap.size + 1, j * 3 + 2, none⟩ = some y := ⟨_, by rw [e2, List.getElem?_eq_getElem (by omega)]⟩
      clear e0 e1 e2 hpl
      have hj8 : (j : Int) < 8 := by omega
      cases hnl : nulL kl
      all_goals
        by_cases hv : vk = 0
        all_goals
          first
          | (have d1 : (vk != 0) = false := by simp [hv])
          | (have d1 : (vk != 0) = true := by simp [hv])
          go_wp2_with fail
          go_roundw
          case rel =>
            have hst : KeyB (((wr.setCell ⟨w.heap.size + 1, j * 3, none⟩ (.int .i64 vk)).setCell ⟨w.heap.size + 1, j * 3 + 1, none⟩ (.int .i64 vn)).setCell ⟨w.heap.size + 1, j * 3 + 2, none⟩ (.string vs)) w.heap.size (w.heap.size + 1) kn := by
              rw [HNX.out]
              unfold KeyB
              rw [← padK_set HLN.out (by omega) ⟨vk, vn, vs⟩]
              exact (World.ownsRow.stored (World.ownsRow.stored (World.ownsRow.stored HK.out (j * 3) _).1 (j * 3 + 1) _).1 (j * 3 + 2) _).1
            refine ⟨j + 1, by omega, by go_num, ?_, ?_, ?_, by simp [hsz], ?_⟩
            · rw [HKN.out, HNX.out, nulL_next, hnl]
              simp [hv]
            · rw [HKN.out]; first | exact hst | (rw [hv] at hst; exact hst)
            · rw [heap_setCell_other _ _ _ _ (by simp), heap_setCell_other _ _ _ _ (by simp), heap_setCell_other _ _ _ _ (by simp)]
              exact HB.out
            · exact ((HW.out.setCell (by simp) _).setCell (by simp) _).setCell (by simp) _
          case measure => simp [intOf]; omega
    · obtain rfl : j = cn := by omega
      generalize hkl : keyW g j f = kl at *
      have HKL := Lib.hid hkl
      clear hkl
      have hpl : (flatK (padK kl)).length = 24 := HK.out.1
      have HPL := Lib.hid hpl
      have HRA : Hid (wr.rangeAt (w.heap.size + 1) 0 (flatK (padK kl))) := Lib.hid fun i v hv => by
        rw [Nat.zero_add, World.ownsRow.cellAt HK.out i (by have := (List.getElem?_eq_some_iff.1 hv).1; omega)]
        exact hv
      have HTH : Hid (wr.there w.heap.size 0 (flatK (padK kl)).toArray.size) := Lib.hid fun i hi => by
        have hi2 : i < 24 := by simpa [hpl] using hi
        refine ⟨?_, free_z HB.out _⟩
        rw [cell_of_row _ _ _ _ _ (0, 0) HB.out, Nat.zero_add, Array.getElem?_eq_getElem (by simpa using hi2)]
        rfl
      have HI : Hid ((Tryz.prog.info? 151).map (·.size) = some (flatK (padK kl)).length) := Lib.hid (by rw [hpl]; exact infoK)
      have HI2 : Hid ((Tryz.prog.info? 151).map (·.size) = some (flatK (padK kl)).toArray.size) := Lib.hid (by rw [List.size_toArray, hpl]; exact infoK)
      have HO1 : Hid ((flatK (padK kl)).toArray.all (·.oneCell') = true) := Lib.hid (Array.all_eq_true_iff_forall_mem.2 fun u hu => flatK_one _ u (by simpa using hu))
      have HV : Hid (keyV kl = .agg (flatK (padK kl)).toArray) := Lib.hid rfl
      clear hpl HC HS HIN HK
      generalize flatK (padK kl) = cells at *
      go_wp2_with (first | (refine wpList_load_mid rfl 151 _ rfl (w.heap.size + 1) 0 rfl cells _ HRA.out Tryz.underlying151 rfl HI.out ?_) | (refine wpList_store_mid rfl 151 _ _ rfl w.heap.size 0 cells.toArray rfl rfl HTH.out HI2.out HO1.out ?_))
      have HE : Hid ((loadVar 151 ⟨w.heap.size, 0, none⟩).run Tryz.prog (wr.setCells w.heap.size 0 cells.toArray.toList) = .ok (.agg cells.toArray) (wr.setCells w.heap.size 0 cells.toArray.toList)) := Lib.hid (run_loadVar_mid _ _ 0 151 cells _ (by have := World.rangeAt_setCells_same wr w.heap.size 0 cells (by have := HTH.out; rw [List.size_toArray] at this; exact this); simpa using this) Tryz.underlying151 rfl HI.out)
      have HBW : Hid (Below w.heap.size w (wr.setCells w.heap.size 0 cells.toArray.toList)) := Lib.hid (below_setCells HW.out _ _ _ (Nat.le_refl _))
      generalize (wr.setCells w.heap.size 0 cells.toArray.toList) = WZ at *
      refine ret_ex rfl ⟨.tuple #[.agg cells.toArray, .bool (!nulL kl)], ?_, ?_⟩
      rotate_left
      · exact ⟨by rw [HKL.out, HV.out], Cls.of HBW.out⟩
      · have hE := HE.out
        simp [results, Tryz.results116, asAddr, hE]
end Go.Proofs.YtdmhmlnfoocnjaaGreatDoor
set_option linter.unusedVariables false
namespace Go.Proofs.YtdmhmlnfoocnjaaGreatDoor
open Go Go.RowKit Go.Deep
theorem idx_first {p : Nat → Bool} : ∀ (m j n : Nat), j ≤ n → n < j + m → p n = true → (∀ i, j ≤ i → i < n → p i = false) → idx p j m = n
  | 0, j, n, h1, h2, _, _ => by omega
  | m + 1, j, n, h1, h2, h3, h4 => by
    by_cases e : j = n
    · subst e
      exact idx_stop h3
    · rw [idx_go (h4 j (Nat.le_refl _) (by omega))]
      exact idx_first m (j + 1) n (by omega) (by omega) h3 fun i h5 h6 => h4 i (by omega) h6
def nmF (fr j : Nat) : ByteArray := if j = 0 then ⟨#[105, 100]⟩ else if j ≤ fr then nmB ⟨#[99]⟩ (j - 1) else nmB ⟨#[102]⟩ (j - 1 - fr)
structure MT (i : Nat) (t : Tb) (fr ff : Nat) : Prop where
  f1 : 1 ≤ fr
  f3 : fr ≤ 3
  f2 : ff ≤ 2
  name : t.name = nmB ⟨#[116]⟩ i
  csl : t.cs.len = 1 + fr + ff
  col : ∀ j, j < 1 + fr + ff → (t.col j).name = nmF fr j ∧ IsTy (t.col j).ty
  col0 : (t.col 0).ty = 1 ∧ (t.col 0).null = false
  colf : ∀ j, j < ff → (t.col (1 + fr + j)).ty = 1
  psl : t.ps.len = 1
  prim : t.prim = fun _ => 0
  usl : t.us.len ≤ 1
  uql : ∀ j, j < t.us.len → (t.uq j).len = 1 ∧ 1 ≤ t.uqn j 0 ∧ t.uqn j 0 ≤ fr
  fsl : t.fs.len = ff
  fkl : ∀ j, j < ff → (t.fk j).len = 1 ∧ t.fkn j 0 = ((1 + fr + j : Nat) : Int)
  fkt : ∀ j, j < ff → ∃ g, g < i ∧ t.fkt j = nmB ⟨#[116]⟩ g
  ksl : t.ks.len ≤ 1
  ckl : t.checks.length = t.ks.len
  cks : ∀ e ∈ t.checks, Made (tyL t.col t.cs.len) 2 2 e
theorem getD_map_range {α : Type} (f : Nat → α) (n i : Nat) (d : α) (h : i < n) : ((List.range n).map f).getD i d = f i := by
  simp [List.getD, h]
theorem MT.of {i : Nat} {t : Tb} (h : MadeTb i t) : ∃ fr ff, MT i t fr ff := by
  obtain ⟨fr, ff, ty, nl, fnl, tgt, ul, fl, ck, s1, s2, s3, s4, pb, rfl, l1, l2, l3, l4, h1, h2, h3, h4, h5, h6, h7, h8, h9, h10⟩ := h
  have hfl : fl.length = ff := by
    have := congrArg List.length h5
    simpa using this
  have hcl : (colL ty nl fr ++ fcL fnl ff).length = 1 + fr + ff := by rw [List.length_append, colL_len, fcL_len]
  have hA : ∀ j, j < fr → (colL ty nl fr ++ fcL fnl ff).getD (1 + j) default = ⟨nmB ⟨#[99]⟩ j, ty j, nl j⟩ := fun j hj => by
    rw [List.getD_eq_getElem?_getD, List.getElem?_append_left (by rw [colL_len]; omega), ← List.getD_eq_getElem?_getD]
    unfold colL
    rw [Nat.add_comm 1 j]
    show ((List.range fr).map _).getD j default = _
    rw [getD_map_range _ _ _ _ hj]
  have hB : ∀ j, j < ff → (colL ty nl fr ++ fcL fnl ff).getD (1 + fr + j) default = ⟨nmB ⟨#[102]⟩ j, 1, fnl j⟩ := fun j hj => by
    rw [List.getD_eq_getElem?_getD, List.getElem?_append_right (by rw [colL_len]; omega), ← List.getD_eq_getElem?_getD, colL_len, Nat.add_sub_cancel_left]
    unfold fcL
    rw [getD_map_range _ _ _ _ hj]
  have hF : ∀ j, j < ff → (fl.getD j default).n = ((1 + fr + j : Nat) : Int) ∧ (fl.getD j default).nm = nmB ⟨#[116]⟩ (tgt j) := fun j hj => by
    have e := congrArg (fun l => l.getD j ((0 : Int), (⟨#[]⟩ : ByteArray))) h5
    rw [getD_map_range _ _ _ _ hj] at e
    have e2 : (fl.map (fun r => (r.n, r.nm))).getD j ((0 : Int), (⟨#[]⟩ : ByteArray)) = ((fl.getD j default).n, (fl.getD j default).nm) := by
      have : j < fl.length := by omega
      simp [List.getD, this]
    rw [e2] at e
    simpa using e
  refine ⟨fr, ff, h1, h2, h3, rfl, l1, fun j hj => ?_, ⟨rfl, rfl⟩, fun j hj => ?_, rfl, rfl, by show s2.len ≤ 1; omega, fun j hj => ?_, l3, fun j hj => ?_, fun j hj => ?_, by show s4.len ≤ 1; omega, by show ck.length = s4.len; omega, fun e he => ?_⟩
  · show ((colL ty nl fr ++ fcL fnl ff).getD j default).name = _ ∧ IsTy ((colL ty nl fr ++ fcL fnl ff).getD j default).ty
    by_cases e0 : j = 0
    · subst e0
      exact ⟨rfl, .inl rfl⟩
    · by_cases e1 : j ≤ fr
      · obtain ⟨k, rfl⟩ : ∃ k, j = 1 + k := ⟨j - 1, by omega⟩
        rw [hA k (by omega)]
        unfold nmF
        rw [if_neg e0, if_pos e1]
        exact ⟨by rw [Nat.add_sub_cancel_left], h4 k (by omega)⟩
      · obtain ⟨k, rfl⟩ : ∃ k, j = 1 + fr + k := ⟨j - 1 - fr, by omega⟩
        rw [hB k (by omega)]
        unfold nmF
        rw [if_neg e0, if_neg e1]
        exact ⟨by rw [show 1 + fr + k - 1 - fr = k by omega], .inl rfl⟩
  · show ((colL ty nl fr ++ fcL fnl ff).getD (1 + fr + j) default).ty = 1
    rw [hB j hj]
  · have hj2 : j < ul.length := by
      have : j < s2.len := hj
      omega
    have hm : ul.getD j default ∈ ul := by
      rw [List.getD_eq_getElem?_getD, List.getElem?_eq_getElem hj2]
      exact List.getElem_mem hj2
    exact ⟨rfl, (h8 _ hm).1, (h8 _ hm).2⟩
  · exact ⟨rfl, (hF j hj).1⟩
  · exact ⟨tgt j, h6 j hj, (hF j hj).2⟩
  · have hty := tyL_colOf (colL ty nl fr ++ fcL fnl ff) s1.len (by rw [l1, hcl])
    show Made (tyL (fun i => (colL ty nl fr ++ fcL fnl ff).getD i default) s1.len) 2 2 e
    rw [hty]
    exact h10 _ he
namespace MT
variable {i fr ff : Nat} {t : Tb}
end MT
section
variable {sl : Sl} {tb : Nat → Tb} {fr ff : Nat → Nat}
end
end Go.Proofs.YtdmhmlnfoocnjaaGreatDoor
