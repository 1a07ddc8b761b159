/-
  Same, Contains, Difference and Count of the program.
-/
import Derived.Test.YtihdfomkphbdnaaBOps
set_option linter.unusedVariables false
namespace Go.Proofs.Ytihdfomkphbdnaa
open Go Go.RowKit
/-- What is asked of a predicate on tallies. -/
def Tests (w : World) (g : Nat) (p : Tr → Bool) : Prop := ∀ W, Below w.heap.size w W → ∀ t : Tr, Calls Try.prog g #[.agg #[t.row.enc, .int .i64 (t.m : Int), .int .i64 (t.n : Int)]] W fun e w' => e = .returned (.bool (p t)) ∧ Cls W w'
theorem differ_tests (w : World) : Tests w 33 (fun t => t.m != t.n) := by
  intro W hW t
  obtain ⟨⟨ra, rl, rc, rv⟩, m, n⟩ := t
  simp only [Rw.enc]
  go_enter Try.func33, Try.ntmps33
  go_wp2
  all_goals
    go_ret
    refine ⟨ret_bool ?_, Cls.of ((Below.refl _ _).alloc (Nat.le_refl _) _)⟩
    by_cases h : m = n
    · subst h; simp
    · have h2 : ¬ ((m : Int) = (n : Int)) := by omega
      rw [Bool.eq_iff_iff]; simp [h]; try omega
theorem less_tests (w : World) : Tests w 34 (fun t => decide (t.m < t.n)) := by
  intro W hW t
  obtain ⟨⟨ra, rl, rc, rv⟩, m, n⟩ := t
  simp only [Rw.enc]
  go_enter Try.func34, Try.ntmps34
  go_wp2
  all_goals
    go_ret
    refine ⟨ret_bool ?_, Cls.of ((Below.refl _ _).alloc (Nat.le_refl _) _)⟩
    by_cases h : m < n
    · have h2 : ((m : Int) < (n : Int)) := by omega
      simp [h]
    · have h2 : ¬ ((m : Int) < (n : Int)) := by omega
      simp [h]
/-- The first tally of which p holds. -/
def fstT (p : Tr → Bool) (T : List Tr) : Int := if T.any p then (T.findIdx p : Nat) else -1
theorem fstT_hit {p : Tr → Bool} {T : List Tr} {j : Nat} (hj : j < T.length) (h : p (T.getD j default) = true) (h0 : ∀ k, k < j → p (T.getD k default) = false) : fstT p T = (j : Nat) := by
  have e : T.getD j default = T[j] := by simp [List.getD, hj]
  have ha : T.any p = true := List.any_eq_true.2 ⟨T[j], List.getElem_mem hj, by rw [← e]; exact h⟩
  unfold fstT
  rw [if_pos ha, (List.findIdx_eq hj).2 ⟨by rw [← e]; exact h, fun k hk => by
    have := h0 k hk
    have e2 : T.getD k default = T[k] := by simp [List.getD, show k < T.length by omega]
    rw [e2] at this
    simpa using this⟩]
theorem fstT_miss {p : Tr → Bool} {T : List Tr} (h0 : ∀ k, k < T.length → p (T.getD k default) = false) : T.any p = false := by
  rw [List.any_eq_false]
  intro t ht
  obtain ⟨k, hk, rfl⟩ := List.mem_iff_getElem.1 ht
  have := h0 k hk
  have e2 : T.getD k default = T[k] := by simp [List.getD, hk]
  rw [e2] at this
  simp [this]
set_option maxHeartbeats 4000000 in
theorem IndexT_calls (g : Nat) (p : Tr → Bool) (eg : ∀ args w, (callFunc g args).run Try.prog w = .ok (.enter g args) w) (v : Value) (T : List Tr) (base : Nat) (w0 w : World) (hT : TalsOwn w0 w base v T) (hp : Tests w g p) (hl : T.length ≤ 20000) :
    Calls Try.prog 47 #[v, .func (.func g) #[] #[]] w fun e w' => e = .returned (.int .i64 (fstT p T)) ∧ Cls w w' := by
  obtain ⟨at', ct, rfl, kt, mt, dt⟩ := hT.read
  have HD := Lib.hid dt
  have HP := Lib.hid hp
  clear hT hp dt
  unfold maxLen at mt
  go_enter Try.func47, Try.ntmps47
  go_wp2_with fail
  go_loopw [5, 8] (fun _ i wr => ∃ j : Nat, j ≤ T.length ∧ i = .int .i64 ((j : Nat) : Int) ∧ Hid (∀ k, k < j → p (T.getD k default) = false) ∧ Cls w wr) (fun _ i _ => T.length - (intOf i).toNat)
  case atStart => exact ⟨0, Nat.zero_le _, rfl, Lib.hid (fun k hk => absurd hk (Nat.not_lt_zero _)), Cls.of (Below.refl _ _)⟩
  case round =>
    obtain ⟨j, hj, rfl, he, x, rfl⟩ := hrel
    by_cases h1 : j < T.length
    · obtain ⟨b, ea, hb, hcell⟩ := HD.out.resolve_left (by omega)
      obtain ⟨q0, q1, q2⟩ := hcell j h1
      have C1 := HP.out x.val x.below (T.getD j default)
      have SF : Hid (p (T.getD j default) = false → ∀ k, k < j + 1 → p (T.getD k default) = false) := Lib.hid (fun e k hk => by
        by_cases hkj : k = j
        · subst hkj; exact e
        · exact he.out k (by omega))
      have ST : Hid (p (T.getD j default) = true → fstT p T = (j : Nat)) := Lib.hid (fun e => fstT_hit h1 e he.out)
      subst ea
      clear hcell he HD
      generalize hr : p (T.getD j default) = r at *
      clear hr
      generalize T.getD j default = u at *
      obtain ⟨⟨ra, rl, rc, rv⟩, m, n⟩ := u
      simp only [Rw.enc] at q0 q1 q2 C1
      have C1' : Hid (Calls Try.prog g (#[.agg #[.slice ra rl rc, .int .i64 (m : Int), .int .i64 (n : Int)]] ++ #[]) x.val fun e w' => e = .returned (.bool r) ∧ Cls x.val w') := Lib.hid C1
      clear C1
      cases r
      · have HG := Lib.hid (SF.out rfl)
        clear SF ST
        go_wp2_with (go_at_fn g; ((refine (Cls.call C1'.out).mono ?_); rintro e _ ⟨rfl, y, rfl⟩))
        go_roundw
        case rel => exact ⟨j + 1, by omega, by go_num, HG, y, rfl⟩
        case measure => simp [intOf]; omega
      · have HG := Lib.hid (ST.out rfl)
        clear SF ST
        go_wp2_with (go_at_fn g; ((refine (Cls.call C1'.out).mono ?_); rintro e _ ⟨rfl, y, rfl⟩))
        go_ret
        exact ⟨ret_int HG.out.symm, y, rfl⟩
    · obtain rfl : j = T.length := by omega
      have HG : Hid (fstT p T = -1) := Lib.hid (by unfold fstT; rw [fstT_miss he.out]; rfl)
      clear he
      go_wp2_with fail
      go_ret
      exact ⟨ret_int HG.out.symm, x, rfl⟩
set_option maxHeartbeats 2000000 in
theorem ContainsT_calls (g : Nat) (p : Tr → Bool) (eg : ∀ args w, (callFunc g args).run Try.prog w = .ok (.enter g args) w) (v : Value) (T : List Tr) (base : Nat) (w0 w : World) (hT : TalsOwn w0 w base v T) (hp : Tests w g p) (hl : T.length ≤ 20000) :
    Calls Try.prog 32 #[v, .func (.func g) #[] #[]] w fun e w' => e = .returned (.bool (T.any p)) ∧ Cls w w' := by
  have C := Lib.hid (IndexT_calls g p eg v T base w0 w hT hp hl)
  clear hT hp eg
  have HF : Hid ((0 : Int) ≤ fstT p T ↔ T.any p = true) := Lib.hid (by unfold fstT; split <;> simp_all)
  generalize fstT p T = q at *
  by_cases hq : 0 ≤ q
  · rw [HF.out.1 hq]
    clear HF
    go_enter Try.func32, Try.ntmps32
    go_wp2_with (go_at_call 47; ((with_reducible refine C.out.mono ?_); rintro e _ ⟨rfl, y, rfl⟩))
    go_ret
    exact ⟨ret_bool (by simp), y, rfl⟩
  · have : T.any p = false := by rw [Bool.eq_false_iff]; exact fun e => hq (HF.out.2 e)
    rw [this]
    clear HF this
    go_enter Try.func32, Try.ntmps32
    go_wp2_with (go_at_call 47; ((with_reducible refine C.out.mono ?_); rintro e _ ⟨rfl, y, rfl⟩))
    go_ret
    exact ⟨ret_bool (by simp [hq]), y, rfl⟩
theorem any_map (T : List Tr) (q : Tl → Bool) : (T.map Tr.tl).any q = T.any (fun t => q t.tl) := by rw [List.any_map]; rfl
set_option maxHeartbeats 2000000 in
theorem Same_calls (a : Option Addr) (n c : Nat) (l : List Rw) (a' : Option Addr) (n' c' : Nat) (l' : List Rw) (w : World) (h : Rws w a n l) (h' : Rws w a' n' l') (hn : n ≤ 10000) (hn' : n' ≤ 10000) :
    Calls Try.prog 12 #[.slice a n c, .slice a' n' c'] w fun e w' => e = .returned (.bool (eqB (vss l) (vss l'))) ∧ Cls w w' := by
  have C1 := Lib.hid (tallies_calls a n c l a' n' c' l' w h h' hn hn')
  clear h h'
  have eg : ∀ args w, (callFunc 33 args).run Try.prog w = .ok (.enter 33 args) w := enters_of Try.func33 (by kernel_rfl) rfl
  have EG := Lib.hid eg
  clear eg
  go_enter Try.func12, Try.ntmps12
  go_wp2_with (go_at_call 28; ((with_reducible refine C1.out.mono ?_); rintro e w1 ⟨v, T, w0, rfl, hx⟩; have H1 := Lib.hid hx; clear hx; have C2 := Lib.hid (ContainsT_calls 33 (fun t => t.m != t.n) EG.out v T w0.heap.size w0 w1 H1.out.1 (differ_tests w1) (by have := H1.out.2.2.1; omega))))
  have er : (!T.any (fun t => t.m != t.n)) = eqB (vss l) (vss l') := by
    have e := H1.out.2.1.eqB
    rw [any_map] at e
    exact e
  have ER := Lib.hid er
  clear er
  generalize T.any (fun t => t.m != t.n) = r at *
  go_wp2_with (go_at_call 32; ((with_reducible refine C2.out.mono ?_); rintro e _ ⟨rfl, y, rfl⟩))
  all_goals
    go_ret
    refine ⟨ret_bool ?_, Cls.of ?_⟩
    · first | exact ER.out | (have e := ER.out; simp_all; done)
    · have hb := H1.out.2.2.2.2.trans (H1.out.2.2.2.1.mono H1.out.2.2.2.2.size)
      exact y.on hb hb.size
set_option maxHeartbeats 2000000 in
theorem Contains_calls (a : Option Addr) (n c : Nat) (l : List Rw) (a' : Option Addr) (n' c' : Nat) (l' : List Rw) (w : World) (h : Rws w a n l) (h' : Rws w a' n' l') (hn : n ≤ 10000) (hn' : n' ≤ 10000) :
    Calls Try.prog 13 #[.slice a n c, .slice a' n' c'] w fun e w' => e = .returned (.bool (geB (vss l) (vss l'))) ∧ Cls w w' := by
  have C1 := Lib.hid (tallies_calls a n c l a' n' c' l' w h h' hn hn')
  clear h h'
  have eg : ∀ args w, (callFunc 34 args).run Try.prog w = .ok (.enter 34 args) w := enters_of Try.func34 (by kernel_rfl) rfl
  have EG := Lib.hid eg
  clear eg
  go_enter Try.func13, Try.ntmps13
  go_wp2_with (go_at_call 28; ((with_reducible refine C1.out.mono ?_); rintro e w1 ⟨v, T, w0, rfl, hx⟩; have H1 := Lib.hid hx; clear hx; have C2 := Lib.hid (ContainsT_calls 34 (fun t => decide (t.m < t.n)) EG.out v T w0.heap.size w0 w1 H1.out.1 (less_tests w1) (by have := H1.out.2.2.1; omega))))
  have er : (!T.any (fun t => decide (t.m < t.n))) = geB (vss l) (vss l') := by
    have e := H1.out.2.1.geB
    rw [any_map] at e
    exact e
  have ER := Lib.hid er
  clear er
  generalize T.any (fun t => decide (t.m < t.n)) = r at *
  go_wp2_with (go_at_call 32; ((with_reducible refine C2.out.mono ?_); rintro e _ ⟨rfl, y, rfl⟩))
  all_goals
    go_ret
    refine ⟨ret_bool ?_, Cls.of ?_⟩
    · first | exact ER.out | (have e := ER.out; simp_all; done)
    · have hb := H1.out.2.2.2.2.trans (H1.out.2.2.2.1.mono H1.out.2.2.2.2.size)
      exact y.on hb hb.size
set_option maxHeartbeats 2000000 in
theorem Count_calls (a : Option Addr) (n c : Nat) (l : List Rw) (s : Rw) (w : World) (h : Rws w a n l) (hs : s.Ok w) (hn : n ≤ 20000) :
    Calls Try.prog 26 #[.slice a n c, s.enc] w fun e w' => e = .returned (.int .i64 (((vss l).count s.vs : Nat) : Int)) ∧ Cls w w' := by
  have HH := Lib.hid h
  have HS := Lib.hid hs
  have hln := h.ln
  have HC : Hid (∀ r : Rw, r.Ok w → ∀ W, Below w.heap.size w W → Calls Try.prog 43 #[r.enc, s.enc] W fun e w' => e = .returned (.bool (sameR r.vs s.vs)) ∧ Cls W w') := Lib.hid fun r hr W hW => same_calls r s W (hr.later hW) (hs.later hW)
  clear h hs
  obtain ⟨sa, sl, sc, sv⟩ := s
  simp only [Rw.enc] at *
  go_enter Try.func26, Try.ntmps26
  go_wp2_with fail
  go_loopw [5, 7, 10] (fun s5 _ i wr => ∃ j : Nat, j ≤ n ∧ i = .int .i64 ((j : Nat) : Int) ∧ s5 = .int .i64 ((((vss l).take j).count sv : Nat) : Int) ∧ Cls w wr) (fun _ _ i _ => n - (intOf i).toNat)
  case atStart => exact ⟨0, Nat.zero_le _, rfl, rfl, Cls.of (Below.refl _ _)⟩
  case round =>
    obtain ⟨j, hj, rfl, rfl, x, rfl⟩ := hrel
    by_cases h1 : j < n
    · obtain ⟨b, off, ea, hb, hcell⟩ := HH.out.at_.resolve_left (by omega)
      have q0 := hcell j h1
      have C1 := HC.out (l.getD j default) (HH.out.get j) x.val x.below
      have hlt : j < (vss l).length := by rw [vss_len]; omega
      have hc : ((vss l).take (j + 1)).count sv = ((vss l).take j).count sv + if sameR (l.getD j default).vs sv = true then 1 else 0 := by
        rw [List.take_succ_eq_append_getElem hlt, List.count_append]
        have : (vss l)[j] = (l.getD j default).vs := by simp [vss, List.getD, show j < l.length by omega]
        rw [this, List.count_singleton]
        unfold sameR
        by_cases e : (l.getD j default).vs = sv
        · simp
        · simp
      have hcb : ((vss l).take j).count sv ≤ 20000 := by
        have := List.count_le_length (a := sv) (l := (vss l).take j)
        rw [List.length_take] at this
        omega
      have HCT := Lib.hid hc
      subst ea
      clear hcell hc hlt
      generalize ((vss l).take j).count sv = k0 at *
      generalize l.getD j default = u at *
      obtain ⟨ra, rl, rc, rv⟩ := u
      simp only [Rw.enc] at q0 C1
      simp only at HCT
      have C1' : Hid (Calls Try.prog 43 #[.slice ra rl rc, .slice sa sl sc] x.val fun e w' => e = .returned (.bool (sameR rv sv)) ∧ Cls x.val w') := Lib.hid C1
      clear C1
      generalize sameR rv sv = r at *
      cases r
      · have HK : Hid (((vss l).take (j + 1)).count sv = k0) := Lib.hid (by simpa using HCT.out)
        clear HCT
        go_wp2_with (go_at_call 43; ((with_reducible refine (Cls.call C1'.out).mono ?_); rintro e _ ⟨rfl, y, rfl⟩))
        go_roundw
        case rel => exact ⟨j + 1, by omega, by go_num, by rw [HK.out], y, rfl⟩
        case measure => simp [intOf]; omega
      · have HK : Hid (((vss l).take (j + 1)).count sv = k0 + 1) := Lib.hid (by simpa using HCT.out)
        clear HCT
        go_wp2_with (go_at_call 43; ((with_reducible refine (Cls.call C1'.out).mono ?_); rintro e _ ⟨rfl, y, rfl⟩))
        go_roundw
        case rel => exact ⟨j + 1, by omega, by go_num, by rw [HK.out]; go_num, y, rfl⟩
        case measure => simp [intOf]; omega
    · obtain rfl : j = n := by omega
      have he : (vss l).take j = vss l := List.take_of_length_le (by rw [vss_len]; omega)
      rw [he]
      go_wp2_with fail
      go_ret
      exact ⟨rfl, x, rfl⟩
end Go.Proofs.Ytihdfomkphbdnaa
