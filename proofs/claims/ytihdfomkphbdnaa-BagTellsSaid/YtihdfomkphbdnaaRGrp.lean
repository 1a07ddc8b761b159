/-
  The reference's groups: each different row of two bags, ascending, with how often it occurs in both.
-/
import Derived.Test.YtihdfomkphbdnaaRCan2
import Derived.Deep.CutBlock
import Derived.Deep.DeepCutAuto
set_option linter.unusedVariables false
namespace Go.Proofs.Ytihdfomkphbdnaa
open Go Go.RowKit
def GrpsOwn (w0 w : World) (base : Nat) (v : Value) (T : List Tr) : Prop := w.ownsRow base 44 3 v T.length (flatT T) ∧ (∀ t ∈ T, t.row.Ok w0)
theorem GrpsOwn.snoc {w0 w w1 : World} {base : Nat} {v v1 : Value} {T : List Tr} {t : Tr} (h : GrpsOwn w0 w base v T) (ht : t.row.Ok w0) (ho : w1.ownsRow base 44 3 v1 (T.length + 1) (flatT T ++ t.cells)) : GrpsOwn w0 w1 base v1 (T ++ [t]) := by
  refine ⟨?_, fun s hs => ?_⟩
  · rw [flatT_append, List.length_append]
    simpa [flatT] using ho
  · rcases List.mem_append.1 hs with hs | hs
    · exact h.2 s hs
    · obtain rfl := List.mem_singleton.1 hs
      exact ht
theorem GrpsOwn.read {w0 w : World} {base : Nat} {v : Value} {T : List Tr} (h : GrpsOwn w0 w base v T) : ∃ a c, v = .slice a T.length c ∧ T.length ≤ c ∧ c ≤ maxLen ∧ (T.length = 0 ∨ ∃ b, a = some ⟨b, 0, none⟩ ∧ b < w.heap.size ∧ ∀ i, i < T.length →
    w.cell? ⟨b, i * 3, none⟩ = some (T.getD i default).row.enc ∧ w.cell? ⟨b, i * 3 + 1, none⟩ = some (.int .i64 (T.getD i default).m) ∧ w.cell? ⟨b, i * 3 + 2, none⟩ = some (.int .i64 (T.getD i default).n)) := by
  rcases h.1.2 with ⟨rfl, h0⟩ | ⟨g, cap, cur, rfl, hb, hh, hn, hc, hs, ht⟩
  · exact ⟨none, 0, by rw [h0], by omega, Nat.zero_le _, .inl h0⟩
  · refine ⟨some ⟨g, 0, none⟩, cap, rfl, hn, hc, .inr ⟨g, rfl, (Array.getElem?_eq_some_iff.1 hh).1, fun i hi => ?_⟩⟩
    have hcell := World.ownsRow.cells h.1 (g := g) rfl
    obtain ⟨f0, f1, f2⟩ := flatT_at T i hi
    have c0 := hcell _ _ f0
    have c1 := hcell _ _ f1
    have c2 := hcell _ _ f2
    rw [add_none, Nat.zero_add] at c0 c1 c2
    exact ⟨c0, c1, c2⟩
theorem GrpsOwn.get {w0 w : World} {base : Nat} {v : Value} {T : List Tr} (h : GrpsOwn w0 w base v T) (i : Nat) : (T.getD i default).row.Ok w0 := by
  by_cases hi : i < T.length
  · have : T.getD i default = T[i] := by simp [List.getD, hi]
    rw [this]; exact h.2 _ (List.getElem_mem hi)
  · have : T.getD i default = default := by simp [List.getD, Nat.le_of_not_lt hi]
    rw [this]; exact Rw.Ok.nil w0
theorem infoG : (Try.prog.info? 44).map (fun i => (i.zero, i.size, i.bytes)) = some (some (.agg #[.slice none 0 0, .int .i64 0, .int .i64 0]), 3, 40) := by kernel_rfl
theorem three {W : World} {b : Nat} {a0 a1 a2 : Value} {t : TypeId} (h : W.heap[b]? = some (.cells #[a0, a1, a2] t)) :
    b < W.heap.size ∧ W.cell? ⟨b, 0, none⟩ = some a0 ∧ W.cell? ⟨b, 1, none⟩ = some a1 ∧ W.cell? ⟨b, 2, none⟩ = some a2 ∧ W.frozen? ⟨b, 1, none⟩ = false ∧ W.frozen? ⟨b, 2, none⟩ = false := by
  refine ⟨(Array.getElem?_eq_some_iff.1 h).1, ?_, ?_, ?_, ?_, ?_⟩
  · simp [World.cell?, h]
  · simp [World.cell?, h]
  · simp [World.cell?, h]
  · simp [World.frozen?, h]
  · simp [World.frozen?, h]
theorem set_one {W : World} {b : Nat} {a0 a1 a2 v : Value} {t : TypeId} (h : W.heap[b]? = some (.cells #[a0, a1, a2] t)) : (W.setCell ⟨b, 1, none⟩ v).heap[b]? = some (.cells #[a0, v, a2] t) := by
  simp [World.setCell, Array.getElem?_modify, h]
theorem set_two {W : World} {b : Nat} {a0 a1 a2 v : Value} {t : TypeId} (h : W.heap[b]? = some (.cells #[a0, a1, a2] t)) : (W.setCell ⟨b, 2, none⟩ v).heap[b]? = some (.cells #[a0, a1, v] t) := by
  simp [World.setCell, Array.getElem?_modify, h]
/-- The rows ahead from i on, counted. -/
theorem lead_is {X : List Row} {r : Row} {i p : Nat} (hs : ∀ j, j < p → X.getD (i + j) [] = r) (hp : i + p ≤ X.length) (he : i + p < X.length → X.getD (i + p) [] ≠ r) : lead (X.drop i) r = p := by
  have hg : ∀ j, (X.drop i).getD j [] = X.getD (i + j) [] := fun j => by simp [List.getD, List.getElem?_drop]
  rcases Nat.lt_or_ge (i + p) X.length with h | h
  · exact lead_hit (fun k hk => by rw [hg]; exact hs k hk) (by rw [List.length_drop]; omega) (by rw [hg]; exact he h)
  · have hl : (X.drop i).length = p := by rw [List.length_drop]; omega
    rw [← hl]
    exact lead_all (fun k hk => by rw [hg]; exact hs k (by omega))
/-- The row that comes next. -/
theorem TalIn.next {A B : List Row} {T : List Tl} {X Y : List Row} {i k p q : Nat} {r : Row} (h : TalIn A B T (X.drop i) (Y.drop k)) (hr : r ∈ X.drop i ∨ r ∈ Y.drop k) (hx : ∀ x ∈ X.drop i, cmpL r x ≤ 0) (hy : ∀ x ∈ Y.drop k, cmpL r x ≤ 0)
    (hp : lead (X.drop i) r = p) (hq : lead (Y.drop k) r = q) : TalIn A B (T ++ [⟨r, p, q⟩]) (X.drop (i + p)) (Y.drop (k + q)) ∧ 0 < p + q := by
  have e := h.step hr hx hy
  rw [hp, hq, List.drop_drop, List.drop_drop] at e
  refine ⟨e, ?_⟩
  have h1 := (lead_drop h.ascX hx).1
  have h2 := (lead_drop h.ascY hy).1
  rcases hr with hm | hm
  · have := List.count_pos_iff.2 hm; omega
  · have := List.count_pos_iff.2 hm; omega
set_option maxHeartbeats 16000000 in
set_option maxRecDepth 100000 in
theorem groups_calls (a : Option Addr) (n c : Nat) (l : List Rw) (a' : Option Addr) (n' c' : Nat) (l' : List Rw) (w : World) (h : Rws w a n l) (h' : Rws w a' n' l') (hn : n ≤ 10000) (hn' : n' ≤ 10000) (hnc : n ≤ c) (hnc' : n' ≤ c') (hc : c ≤ maxLen) (hc' : c' ≤ maxLen) :
    Calls Try.prog 30 #[.slice a n c, .slice a' n' c'] w fun e w' => ∃ v T w0, e = .returned v ∧ GrpsOwn w0 w' w0.heap.size v T ∧ TalOf (vss l) (vss l') (T.map Tr.tl) ∧ T.length ≤ n + n' ∧ (∀ t ∈ T, 0 < t.m + t.n) ∧ Below w0.heap.size w0 w' ∧ Below w.heap.size w w0 := by
  obtain ⟨i0, hi0, hz0, hz1, hz2⟩ := info_parts infoG
  have C1 : Hid (∀ W, Below w.heap.size w W → Calls Try.prog 17 #[.slice a n c] W fun e w' => CanOf W w' e n (vss l)) := Lib.hid fun W hW => rCanonical_calls n a c l W (h.later hW) hn hnc hc
  have C2 : Hid (∀ W, Below w.heap.size w W → Calls Try.prog 17 #[.slice a' n' c'] W fun e w' => CanOf W w' e n' (vss l')) := Lib.hid fun W hW => rCanonical_calls n' a' c' l' W (h'.later hW) hn' hnc' hc'
  clear h h'
  have tok1 : True := trivial
  have tok2 : True := trivial
  go_enter Try.func30, Try.ntmps30
  go_wp2_with (first | (go_at_call 17; have _t := tok1; ((with_reducible refine (C1.out _ (Below.refl _ _)).mono ?_); rintro e w1 ⟨aa, ca, X, rfl, hx⟩; have H1 := Lib.hid hx; clear hx tok1 _t)) | (go_at_call 17; have _t := tok2; ((with_reducible refine (C2.out _ H1.out.2.2.2.2.2.2).mono ?_); rintro e w2 ⟨ab, cb, Y, rfl, hx⟩; have H2 := Lib.hid hx; clear hx tok2 _t)))
  obtain ⟨r1, k1, m1, p1, s1, d1, b1⟩ := H1.out
  obtain ⟨r2, k2, m2, p2, s2, d2, b2⟩ := H2.out
  have HA : Hid (Rws w2 aa n X) := Lib.hid (r1.later b2)
  have HB : Hid (Rws w2 ab n' Y) := Lib.hid r2
  have HLX : Hid (X.length = n) := Lib.hid r1.ln
  have HLY : Hid (Y.length = n') := Lib.hid r2.ln
  have HT : Hid (TalIn (vss l) (vss l') (([] : List Tr).map Tr.tl) ((vss X).drop 0) ((vss Y).drop 0)) := Lib.hid (TalIn.start p1 p2 s1 s2)
  have HW2 : Hid (Below w.heap.size w w2) := Lib.hid (b1.trans (b2.mono b1.size))
  have HAX : Hid (Asc (vss X)) := Lib.hid s1
  have HAY : Hid (Asc (vss Y)) := Lib.hid s2
  unfold maxLen at m1 m2
  clear H1 H2 C1 C2 r1 p1 s1 d1 b1 r2 p2 s2 d2 b2 hc hc' hnc hnc'
  obtain ⟨nx, hnx⟩ : ∃ nx, nx = n := ⟨_, rfl⟩
  obtain ⟨ny, hny⟩ : ∃ ny, ny = n' := ⟨_, rfl⟩
  subst hnx hny
  go_loopw [7, 8, 9] (fun s7 s8 s9 wr => ∃ i k T, i ≤ nx ∧ k ≤ ny ∧ s8 = .int .i64 ((i : Nat) : Int) ∧ s9 = .int .i64 ((k : Nat) : Int) ∧ Hid (GrpsOwn w2 wr w2.heap.size s7 T) ∧ Hid (TalIn (vss l) (vss l') (T.map Tr.tl) ((vss X).drop i) ((vss Y).drop k)) ∧ T.length ≤ i + k ∧ Hid (∀ t ∈ T, 0 < t.m + t.n) ∧ Hid (Below w2.heap.size w2 wr)) (fun _ s8 s9 _ => nx + ny - ((intOf s8).toNat + (intOf s9).toNat))
  case atStart => exact ⟨0, 0, [], Nat.zero_le _, Nat.zero_le _, rfl, rfl, Lib.hid ⟨World.ownsRow_nil _ _ _ _, fun t ht => by cases ht⟩, HT, Nat.le_refl _, Lib.hid (fun t ht => by cases ht), Lib.hid (Below.refl _ _)⟩
  case round =>
    obtain ⟨i, k, T, hi, hk, rfl, rfl, hO, hI, hTl, hPO, hBr⟩ := hrel
    have sr := hBr.out.size
    by_cases h0 : i = nx ∧ k = ny
    · obtain ⟨e1, e2⟩ := h0
      obtain rfl : nx = i := e1.symm
      obtain rfl : ny = k := e2.symm
      have hd := hI.out
      rw [List.drop_of_length_le (by rw [vss_len, HLX.out]; exact Nat.le_refl _), List.drop_of_length_le (by rw [vss_len, HLY.out]; exact Nat.le_refl _)] at hd
      have HD := Lib.hid hd.done
      clear hd
      go_wp2_with fail
      go_ret
      exact ⟨_, rfl, T, w2, hO.out, HD.out, hTl, hPO.out, hBr.out, HW2.out⟩
    · have hbnd : i < nx ∨ k < ny := by omega
      go_upto_region 4 with fail
      go_cut [25] (fun s25 wx => s25 = .bool true ∧ wx = wr)
      case first =>
        by_cases hi' : i < nx
        · have hiz : (i : Int) < (nx : Int) := by omega
          go_wp2_with fail
          go_meet
          case rel => exact ⟨rfl, rfl⟩
        · have hiz : ¬ (i : Int) < (nx : Int) := by omega
          have hkz : (k : Int) < (ny : Int) := by omega
          go_wp2_with fail
          go_meet
          case rel => exact ⟨rfl, rfl⟩
      case rest =>
      obtain ⟨rfl, hwc⟩ := hcut
      obtain rfl : wr = wc := hwc.symm
      go_upto_region 6 with fail
      go_cut [47] (fun s47 wx => ∃ bb : Bool, s47 = .bool bb ∧ Hid ((bb = true → i < nx ∧ ∀ y ∈ (vss Y).drop k, cmpL (X.getD i default).vs y ≤ 0) ∧ (bb = false → k < ny ∧ ∀ x ∈ (vss X).drop i, cmpL (Y.getD k default).vs x ≤ 0)) ∧ Cls wr wx)
      case first =>
        by_cases hk' : k < ny
        · obtain ⟨bb, ob, eb⟩ := HB.out.addr (by omega)
          subst eb
          have hkz : (k : Int) < (ny : Int) := by omega
          have hkb : ((k : Int) == (ny : Int)) = false := by rw [beq_eq_false_iff_ne]; omega
          have hbB := (HB.out.cellAt hBr.out hk').1
          have qB := (HB.out.cellAt hBr.out hk').2
          have hbB' : bb < wr.heap.size := by omega
          have okB := HB.out.get k
          have hkY : k < (vss Y).length := by rw [vss_len, HLY.out]; exact hk'
          by_cases hi' : i < nx
          · obtain ⟨ba, oa, ea⟩ := HA.out.addr (by omega)
            subst ea
            have hiz : (i : Int) < (nx : Int) := by omega
            have hbA := (HA.out.cellAt hBr.out hi').1
            have qA := (HA.out.cellAt hBr.out hi').2
            have hbA' : ba < wr.heap.size := by omega
            have okA := HA.out.get i
            have hiX : i < (vss X).length := by rw [vss_len, HLX.out]; exact hi'
            have HPL : Hid (cmpL (X.getD i default).vs (Y.getD k default).vs ≤ 0 → i < nx ∧ ∀ y ∈ (vss Y).drop k, cmpL (X.getD i default).vs y ≤ 0) := Lib.hid (fun hc => ⟨hi', by have e := le_drop (x := (X.getD i default).vs) HAY.out (k := k) (fun _ => by rw [vss_getD]; exact hc); exact e⟩)
            have HPR : Hid (¬ cmpL (X.getD i default).vs (Y.getD k default).vs ≤ 0 → k < ny ∧ ∀ x ∈ (vss X).drop i, cmpL (Y.getD k default).vs x ≤ 0) := Lib.hid (fun hc => ⟨hk', by have e := le_drop (x := (Y.getD k default).vs) HAX.out (k := i) (fun _ => by rw [vss_getD]; have := cmpL_neg (X.getD i default).vs (Y.getD k default).vs; omega); exact e⟩)
            have C : Hid (∀ W, Below wr.heap.size wr W → Calls Try.prog 11 #[(X.getD i default).enc, (Y.getD k default).enc] W fun e w' => e = .returned (.int .i64 (cmpL (X.getD i default).vs (Y.getD k default).vs)) ∧ Cls W w') := Lib.hid fun W hW => rCompareRows_calls _ _ _ _ _ _ _ _ W ((okA.later hBr.out).later hW).holds ((okB.later hBr.out).later hW).holds okA.le okB.le okA.cap okB.cap
            clear okA okB
            generalize X.getD i default = u at *
            generalize Y.getD k default = v at *
            obtain ⟨ra, rl, rc, rv⟩ := u
            obtain ⟨qa, ql, qc, qv⟩ := v
            simp only [Rw.enc] at qA qB C
            simp only at C HPL HPR
            generalize cmpL rv qv = qq at *
            by_cases hle : qq ≤ 0
            · have HP := Lib.hid (HPL.out hle)
              clear HPL HPR
              refine wp_region_ext (by kernel_rfl) (by kernel_rfl) ?_
              repeat (go_big_quiet_step ((go_at_call 11; exact Cls.call (C.out _ (Ext.below _)))))
              refine wpQuiet_nil ?_
              rintro _ ⟨y, rfl⟩
              go_wp2_with fail
              go_meet
              case rel => exact ⟨true, rfl, Lib.hid ⟨(fun _ => HP.out), (fun h => by cases h)⟩, y, rfl⟩
            · have HP := Lib.hid (HPR.out hle)
              clear HPL HPR
              refine wp_region_ext (by kernel_rfl) (by kernel_rfl) ?_
              repeat (go_big_quiet_step ((go_at_call 11; exact Cls.call (C.out _ (Ext.below _)))))
              refine wpQuiet_nil ?_
              rintro _ ⟨y, rfl⟩
              go_wp2_with fail
              go_meet
              case rel => exact ⟨false, rfl, Lib.hid ⟨(fun h => by cases h), (fun _ => HP.out)⟩, y, rfl⟩
          · obtain rfl : nx = i := by omega
            have HP : Hid (k < ny ∧ ∀ x ∈ (vss X).drop nx, cmpL (Y.getD k default).vs x ≤ 0) := Lib.hid ⟨hk', by have e := le_drop (x := (Y.getD k default).vs) HAX.out (k := nx) (fun hlt => absurd hlt (by rw [vss_len, HLX.out]; omega)); exact e⟩
            clear okB
            generalize Y.getD k default = v at *
            obtain ⟨qa, ql, qc, qv⟩ := v
            simp only [Rw.enc] at qB
            refine wp_region_ext (by kernel_rfl) (by kernel_rfl) ?_
            repeat (go_big_quiet_step (fail))
            refine wpQuiet_nil ?_
            rintro _ ⟨y, rfl⟩
            go_wp2_with fail
            go_meet
            case rel => exact ⟨false, rfl, Lib.hid ⟨(fun h => by cases h), (fun _ => HP.out)⟩, y, rfl⟩
        · obtain rfl : ny = k := by omega
          have hi' : i < nx := by omega
          have HP : Hid (i < nx ∧ ∀ y ∈ (vss Y).drop ny, cmpL (X.getD i default).vs y ≤ 0) := Lib.hid ⟨hi', by have e := le_drop (x := (X.getD i default).vs) HAY.out (k := ny) (fun hlt => absurd hlt (by rw [vss_len, HLY.out]; omega)); exact e⟩
          refine wp_region_ext (by kernel_rfl) (by kernel_rfl) ?_
          repeat (go_big_quiet_step (fail))
          refine wpQuiet_nil ?_
          rintro _ ⟨y, rfl⟩
          go_wp2_with fail
          go_meet
          case rel => exact ⟨true, rfl, Lib.hid ⟨(fun _ => HP.out), (fun h => by cases h)⟩, y, rfl⟩
      case rest =>
        obtain ⟨bb, rfl, HP, y, rfl⟩ := hcut
        have sy := y.size
        have HBY : Hid (Below w2.heap.size w2 y.val) := Lib.hid (hBr.out.trans (y.below.mono sr))
        go_upto_if 47 with fail
        go_cut [10] (fun s10 wx => ∃ r : Rw, s10 = r.enc ∧ Hid (r.Ok w2 ∧ (r.vs ∈ (vss X).drop i ∨ r.vs ∈ (vss Y).drop k) ∧ (∀ x ∈ (vss X).drop i, cmpL r.vs x ≤ 0) ∧ (∀ x ∈ (vss Y).drop k, cmpL r.vs x ≤ 0)) ∧ wx = y.val)
        case first =>
          cases bb
          · obtain ⟨hk', hle⟩ := HP.out.2 rfl
            have hkY : k < (vss Y).length := by rw [vss_len, HLY.out]; exact hk'
            have HF : Hid ((Y.getD k default).Ok w2 ∧ ((Y.getD k default).vs ∈ (vss X).drop i ∨ (Y.getD k default).vs ∈ (vss Y).drop k) ∧ (∀ x ∈ (vss X).drop i, cmpL (Y.getD k default).vs x ≤ 0) ∧ (∀ x ∈ (vss Y).drop k, cmpL (Y.getD k default).vs x ≤ 0)) := Lib.hid ⟨HB.out.get k, .inr (by rw [drop_at hkY, vss_getD]; exact List.mem_cons_self), hle, by have e := asc_drop_le HAY.out hkY; rw [vss_getD] at e; exact e⟩
            obtain ⟨bb, ob, eb⟩ := HB.out.addr (by omega)
            subst eb
            have hkz : (k : Int) < (ny : Int) := by omega
            have hbB := (HB.out.cellAt HBY.out hk').1
            have qB := (HB.out.cellAt HBY.out hk').2
            clear hle hkY
            generalize Y.getD k default = v at *
            obtain ⟨qa, ql, qc, qv⟩ := v
            simp only [Rw.enc] at qB
            go_wp2_with fail
            go_meet
            case rel => exact ⟨⟨qa, ql, qc, qv⟩, rfl, HF, rfl⟩
          · obtain ⟨hi', hle⟩ := HP.out.1 rfl
            have hiX : i < (vss X).length := by rw [vss_len, HLX.out]; exact hi'
            have HF : Hid ((X.getD i default).Ok w2 ∧ ((X.getD i default).vs ∈ (vss X).drop i ∨ (X.getD i default).vs ∈ (vss Y).drop k) ∧ (∀ x ∈ (vss X).drop i, cmpL (X.getD i default).vs x ≤ 0) ∧ (∀ x ∈ (vss Y).drop k, cmpL (X.getD i default).vs x ≤ 0)) := Lib.hid ⟨HA.out.get i, .inl (by rw [drop_at hiX, vss_getD]; exact List.mem_cons_self), (by have e := asc_drop_le HAX.out hiX; rw [vss_getD] at e; exact e), hle⟩
            obtain ⟨ba, oa, ea⟩ := HA.out.addr (by omega)
            subst ea
            have hiz : (i : Int) < (nx : Int) := by omega
            have hbA := (HA.out.cellAt HBY.out hi').1
            have qA := (HA.out.cellAt HBY.out hi').2
            clear hle hiX
            generalize X.getD i default = u at *
            obtain ⟨ra, rl, rc, rv⟩ := u
            simp only [Rw.enc] at qA
            go_wp2_with fail
            go_meet
            case rel => exact ⟨⟨ra, rl, rc, rv⟩, rfl, HF, rfl⟩
        case rest =>
        obtain ⟨⟨ra, rl, rc, rv⟩, rfl, HR, hwc⟩ := hcut
        subst hwc
        have HOKR : Hid (Rw.Ok w2 ⟨ra, rl, rc, rv⟩) := Lib.hid HR.out.1
        simp only [Rw.enc]
        go_upto_block 2 with fail
        have H5 : Hid ((y.val.alloc (.cells #[.slice ra rl rc, .int .i64 0, .int .i64 0] 44)).heap[y.val.heap.size]? = some (.cells #[.slice ra rl rc, .int .i64 0, .int .i64 0] 44)) := Lib.hid (heap_alloc_new _ _)
        have HB5 : Hid (Below y.val.heap.size y.val (y.val.alloc (.cells #[.slice ra rl rc, .int .i64 0, .int .i64 0] 44))) := Lib.hid ((Below.refl _ _).alloc (Nat.le_refl _) _)
        have HO5 : Hid (GrpsOwn w2 y.val w2.heap.size u7 T) := Lib.hid ⟨own_later' hO.out.1 y.below, hO.out.2⟩
        have HW5 := HBY
        have stb : w2.heap.size ≤ y.val.heap.size := by omega
        have hstep : Hid (∀ P Q, lead ((vss X).drop i) rv = P → lead ((vss Y).drop k) rv = Q → TalIn (vss l) (vss l') ((T ++ [(⟨⟨ra, rl, rc, rv⟩, P, Q⟩ : Tr)]).map Tr.tl) ((vss X).drop (i + P)) ((vss Y).drop (k + Q)) ∧ 0 < P + Q) := Lib.hid (fun P Q hP hQ => by
          have e := hI.out.next HR.out.2.1 HR.out.2.2.1 HR.out.2.2.2 hP hQ
          rw [List.map_append]
          exact e)
        clear HP HR HBY hO hI
        generalize y.val = w5 at *
        clear y sy
        have HTB : Hid (∀ W, Below w5.heap.size w5 W → Below w5.heap.size w5 W) := Lib.hid fun _ h => h
        obtain ⟨tb, htb⟩ : ∃ tb, tb = w5.heap.size := ⟨_, rfl⟩
        have HTB : Hid (tb = w5.heap.size) := Lib.hid htb
        rw [← htb] at H5 HB5 stb ⊢
        clear htb
        go_cut [8] (fun s8 wx => ∃ p : Nat, i + p ≤ nx ∧ s8 = .int .i64 ((i + p : Nat) : Int) ∧ Hid (lead ((vss X).drop i) rv = p) ∧ Hid (Below tb w5 wx) ∧ Hid (wx.heap[tb]? = some (.cells #[.slice ra rl rc, .int .i64 ((p : Nat) : Int), .int .i64 0] 44)))
        case first =>
          go_wp2_with fail
          go_loopw [8] (fun s W => ∃ p : Nat, i + p ≤ nx ∧ s = .int .i64 ((i + p : Nat) : Int) ∧ Hid (∀ j, j < p → (vss X).getD (i + j) [] = rv) ∧ Hid (Below tb w5 W) ∧ Hid (W.heap[tb]? = some (.cells #[.slice ra rl rc, .int .i64 ((p : Nat) : Int), .int .i64 0] 44))) (fun s _ => nx - (intOf s).toNat)
          case atStart => exact ⟨0, by omega, rfl, Lib.hid (fun j hj => absurd hj (Nat.not_lt_zero _)), HB5, H5⟩
          case round =>
            obtain ⟨p, hp, rfl, hs, hB5, h5⟩ := hrel
            obtain ⟨ht, c0, c1, c2, f1, f2⟩ := three h5.out
            have hBw : Hid (Below w2.heap.size w2 wr) := Lib.hid (HW5.out.trans (hB5.out.mono stb))
            by_cases h1 : i + p < nx
            · obtain ⟨b1, o1, e1⟩ := HA.out.addr (by omega)
              subst e1
              have hbX := (HA.out.cellAt hBw.out h1).1
              have qX := (HA.out.cellAt hBw.out h1).2
              have hbX' : b1 < wr.heap.size := by have := hBw.out.size; omega
              have okX := HA.out.get (i + p)
              have C : Hid (∀ W, Below wr.heap.size wr W → Calls Try.prog 11 #[(X.getD (i + p) default).enc, .slice ra rl rc] W fun e w' => e = .returned (.int .i64 (cmpL (X.getD (i + p) default).vs rv)) ∧ Cls W w') := Lib.hid fun W hW => rCompareRows_calls _ _ _ _ _ _ _ _ W ((okX.later hBw.out).later hW).holds ((HOKR.out.later hBw.out).later hW).holds okX.le HOKR.out.le okX.cap HOKR.out.cap
              have hq := sameR_cmp (X.getD (i + p) default).vs rv
              have hst : Hid (sameR (X.getD (i + p) default).vs rv = true → ∀ j, j < p + 1 → (vss X).getD (i + j) [] = rv) := Lib.hid (fun e j hj => by
                by_cases hjp : j = p
                · subst hjp; rw [vss_getD]; simpa [sameR] using e
                · exact hs.out j (by omega))
              have hsf : Hid (sameR (X.getD (i + p) default).vs rv = false → lead ((vss X).drop i) rv = p) := Lib.hid (fun e => lead_is hs.out (by rw [vss_len, HLX.out]; omega) (fun _ => by rw [vss_getD]; simpa [sameR] using e))
              clear okX
              generalize X.getD (i + p) default = u at *
              obtain ⟨xa, xl, xc, xv⟩ := u
              simp only [Rw.enc] at qX C
              simp only at hq hst hsf C
              generalize cmpL xv rv = qq at *
              generalize sameR xv rv = rr at *
              have hz : ((i + p : Nat) : Int) < (nx : Int) := by omega
              cases rr
              · have HL1 := Lib.hid (hsf.out rfl)
                clear hst hsf
                go_wp2_with (go_at_call 11; ((with_reducible refine (C.out _ (Below.refl _ _)).mono ?_); rintro e _ ⟨rfl, z, rfl⟩))
                go_wp2_with fail
                go_meet
                case rel => exact ⟨p, hp, rfl, HL1, Lib.hid (hB5.out.trans (z.below.mono (Nat.le_of_lt ht))), Lib.hid ((z.block ht).trans h5.out)⟩
              · have HS := Lib.hid (hst.out rfl)
                clear hst hsf
                have h5' := h5
                go_wp2_with (go_at_call 11; ((with_reducible refine (C.out _ (Below.refl _ _)).mono ?_); rintro e _ ⟨rfl, z, rfl⟩))
                go_roundw
                case rel => exact ⟨p + 1, by omega, by go_num, HS, Lib.hid (Below.setCell (hB5.out.trans (z.below.mono (by omega))) (Nat.le_refl _) _), Lib.hid (by have e := set_one (v := .int .i64 ((p + 1 : Nat) : Int)) ((z.block ht).trans h5.out); simpa using e)⟩
                case measure => simp [intOf]; omega
            · have HL1 : Hid (lead ((vss X).drop i) rv = p) := Lib.hid (lead_is hs.out (by rw [vss_len, HLX.out]; omega) (fun hlt => absurd hlt (by rw [vss_len, HLX.out]; omega)))
              have hz : ¬ (((i + p : Nat) : Int) < (nx : Int)) := by omega
              go_wp2_with fail
              go_meet
              case rel => exact ⟨p, hp, rfl, HL1, hB5, h5⟩
        case rest =>
        obtain ⟨P, hP, rfl, HL1, HB6, H6⟩ := hcut
        generalize wc = w6 at *
        clear H5 HB5
        have HB5 := HB6
        have H5 := H6
        clear HB6 H6
        go_upto_block 4 with fail
        go_cut [9] (fun s9 wx => ∃ p : Nat, k + p ≤ ny ∧ s9 = .int .i64 ((k + p : Nat) : Int) ∧ Hid (lead ((vss Y).drop k) rv = p) ∧ Hid (Below tb w5 wx) ∧ Hid (wx.heap[tb]? = some (.cells #[.slice ra rl rc, .int .i64 ((P : Nat) : Int), .int .i64 ((p : Nat) : Int)] 44)))
        case first =>
          go_wp2_with fail
          go_loopw [9] (fun s W => ∃ p : Nat, k + p ≤ ny ∧ s = .int .i64 ((k + p : Nat) : Int) ∧ Hid (∀ j, j < p → (vss Y).getD (k + j) [] = rv) ∧ Hid (Below tb w5 W) ∧ Hid (W.heap[tb]? = some (.cells #[.slice ra rl rc, .int .i64 ((P : Nat) : Int), .int .i64 ((p : Nat) : Int)] 44))) (fun s _ => ny - (intOf s).toNat)
          case atStart => exact ⟨0, by omega, rfl, Lib.hid (fun j hj => absurd hj (Nat.not_lt_zero _)), HB5, H5⟩
          case round =>
            obtain ⟨p, hp, rfl, hs, hB5, h5⟩ := hrel
            obtain ⟨ht, c0, c1, c2, f1, f2⟩ := three h5.out
            have hBw : Hid (Below w2.heap.size w2 wr) := Lib.hid (HW5.out.trans (hB5.out.mono stb))
            by_cases h1 : k + p < ny
            · obtain ⟨b1, o1, e1⟩ := HB.out.addr (by omega)
              subst e1
              have hbX := (HB.out.cellAt hBw.out h1).1
              have qX := (HB.out.cellAt hBw.out h1).2
              have hbX' : b1 < wr.heap.size := by have := hBw.out.size; omega
              have okX := HB.out.get (k + p)
              have C : Hid (∀ W, Below wr.heap.size wr W → Calls Try.prog 11 #[(Y.getD (k + p) default).enc, .slice ra rl rc] W fun e w' => e = .returned (.int .i64 (cmpL (Y.getD (k + p) default).vs rv)) ∧ Cls W w') := Lib.hid fun W hW => rCompareRows_calls _ _ _ _ _ _ _ _ W ((okX.later hBw.out).later hW).holds ((HOKR.out.later hBw.out).later hW).holds okX.le HOKR.out.le okX.cap HOKR.out.cap
              have hq := sameR_cmp (Y.getD (k + p) default).vs rv
              have hst : Hid (sameR (Y.getD (k + p) default).vs rv = true → ∀ j, j < p + 1 → (vss Y).getD (k + j) [] = rv) := Lib.hid (fun e j hj => by
                by_cases hjp : j = p
                · subst hjp; rw [vss_getD]; simpa [sameR] using e
                · exact hs.out j (by omega))
              have hsf : Hid (sameR (Y.getD (k + p) default).vs rv = false → lead ((vss Y).drop k) rv = p) := Lib.hid (fun e => lead_is hs.out (by rw [vss_len, HLY.out]; omega) (fun _ => by rw [vss_getD]; simpa [sameR] using e))
              clear okX
              generalize Y.getD (k + p) default = u at *
              obtain ⟨xa, xl, xc, xv⟩ := u
              simp only [Rw.enc] at qX C
              simp only at hq hst hsf C
              generalize cmpL xv rv = qq at *
              generalize sameR xv rv = rr at *
              have hz : ((k + p : Nat) : Int) < (ny : Int) := by omega
              cases rr
              · have HL1 := Lib.hid (hsf.out rfl)
                clear hst hsf
                go_wp2_with (go_at_call 11; ((with_reducible refine (C.out _ (Below.refl _ _)).mono ?_); rintro e _ ⟨rfl, z, rfl⟩))
                go_wp2_with fail
                go_meet
                case rel => exact ⟨p, hp, rfl, HL1, Lib.hid (hB5.out.trans (z.below.mono (Nat.le_of_lt ht))), Lib.hid ((z.block ht).trans h5.out)⟩
              · have HS := Lib.hid (hst.out rfl)
                clear hst hsf
                have h5' := h5
                go_wp2_with (go_at_call 11; ((with_reducible refine (C.out _ (Below.refl _ _)).mono ?_); rintro e _ ⟨rfl, z, rfl⟩))
                go_roundw
                case rel => exact ⟨p + 1, by omega, by go_num, HS, Lib.hid (Below.setCell (hB5.out.trans (z.below.mono (by omega))) (Nat.le_refl _) _), Lib.hid (by have e := set_two (v := .int .i64 ((p + 1 : Nat) : Int)) ((z.block ht).trans h5.out); simpa using e)⟩
                case measure => simp [intOf]; omega
            · have HL1 : Hid (lead ((vss Y).drop k) rv = p) := Lib.hid (lead_is hs.out (by rw [vss_len, HLY.out]; omega) (fun hlt => absurd hlt (by rw [vss_len, HLY.out]; omega)))
              have hz : ¬ (((k + p : Nat) : Int) < (ny : Int)) := by omega
              go_wp2_with fail
              go_meet
              case rel => exact ⟨p, hp, rfl, HL1, hB5, h5⟩
        case rest =>
        obtain ⟨Q, hQ, rfl, HL2, HB7, H7⟩ := hcut
        generalize wc = w7 at *
        clear H5 HB5
        obtain ⟨ht, c0, c1, c2, f1, f2⟩ := three H7.out
        have hst := hstep.out P Q HL1.out HL2.out
        have HST := Lib.hid hst.1
        have hpq := hst.2
        have s7 := HB7.out.size
        have htb := HTB.out
        have HO7 : Hid (GrpsOwn w2 w7 w2.heap.size u7 T) := Lib.hid ⟨own_later' HO5.out.1 (by rw [← htb]; exact HB7.out), HO5.out.2⟩
        have HBW : Hid (Below w2.heap.size w2 w7) := Lib.hid (HW5.out.trans (HB7.out.mono stb))
        have HSN : Hid (∀ w1 v1, w1.ownsRow w2.heap.size 44 3 v1 (T.length + 1) (flatT T ++ (⟨⟨ra, rl, rc, rv⟩, P, Q⟩ : Tr).cells) → GrpsOwn w2 w1 w2.heap.size v1 (T ++ [(⟨⟨ra, rl, rc, rv⟩, P, Q⟩ : Tr)])) := Lib.hid fun w1 v1 h2 => HO7.out.snoc (t := ⟨⟨ra, rl, rc, rv⟩, P, Q⟩) HOKR.out h2
        have sbw := HBW.out.size
        clear hst hstep htb HTB
        have tok1 : True := trivial
        go_wp2_with (at_builtin; have _t := tok1; refine wpList_append_own _ rfl _ _ 41 rfl w2.heap.size 44 i0 (.agg #[.slice none 0 0, .int .i64 0, .int .i64 0]) 3 40 Try.underlying41 hi0 hz0 hz1 hz2 rfl (by decide) _ _ _ rfl (own_later' HO7.out.1 ((Below.refl _ _).alloc (Nat.le_refl _) _)) ⟨w7.heap.size, 0, none⟩ 1 1 (Tr.cells (⟨⟨ra, rl, rc, rv⟩, P, Q⟩ : Tr)) rfl rfl (cells_new' _ _ _) (Tr.one _) (by unfold maxLen; omega) (by omega) (by simp; omega) ?_; intro v1 w8 hown8 hg8 _; have HO8 : Hid (GrpsOwn w2 w8 w2.heap.size v1 (T ++ [(⟨⟨ra, rl, rc, rv⟩, P, Q⟩ : Tr)])) := Lib.hid (HSN.out _ _ hown8); have HB8 : Hid (Below w2.heap.size w2 w8) := Lib.hid (Below.grown (HBW.out.alloc sbw _) hg8 (by simp; omega) (fun g hg => (HO7.out.1.lt g hg).1)); clear hown8 hg8 tok1 _t)
        go_roundw
        case rel =>
          exact ⟨i + P, k + Q, T ++ [(⟨⟨ra, rl, rc, rv⟩, P, Q⟩ : Tr)], hP, hQ, (by first | rfl | go_num), (by first | rfl | go_num), HO8, HST, (by simp; omega), Lib.hid (fun t ht => (List.mem_append.1 ht).elim (hPO.out t) (fun e => by rw [List.mem_singleton.1 e]; exact hpq)), HB8⟩
        case measure => simp [intOf]; omega
end Go.Proofs.Ytihdfomkphbdnaa
