/-
  How many rows at the beginning are the same as a row: slices.IndexFunc with its closure.
-/
import Derived.Test.YtihdfomkphbdnaaBLead
set_option linter.unusedVariables false
namespace Go.Proofs.Ytihdfomkphbdnaa
open Go Go.RowKit
set_option maxHeartbeats 2000000 in
theorem Index_calls (a : Option Addr) (n c : Nat) (l : List Rw) (s : Rw) (B : Nat) (w : World) (h : Rws w a n l) (hs : s.Ok w) (hB : B < w.heap.size) (hc : w.cell? ⟨B, 0, none⟩ = some s.enc) (hn : n ≤ 10000) :
    Calls Try.prog 52 #[.slice a n c, .func (.func 53) #[] #[.pointer (some ⟨B, 0, none⟩)]] w
      fun e w' => e = .returned (.int .i64 (idxL (vss l) s.vs)) ∧ Cls w w' := by
  have HS := Lib.hid hs
  have HH := Lib.hid h
  have HN : Hid (l.length = n) := Lib.hid h.ln
  have HCS := Lib.hid hc
  clear hs h hc
  go_enter Try.func52, Try.ntmps52
  go_wp2_with fail
  go_loopw [5, 8] (fun _ i wr => ∃ j : Nat, j ≤ n ∧ i = .int .i64 j ∧ Hid (∀ k, k < j → (l.getD k default).vs = s.vs) ∧ Cls w wr) (fun _ i _ => n - (intOf i).toNat)
  case atStart => exact ⟨0, Nat.zero_le _, rfl, Lib.hid (fun k hk => absurd hk (Nat.not_lt_zero _)), Cls.of (Below.refl _ _)⟩
  case round =>
    obtain ⟨j, hj, rfl, he, x, rfl⟩ := hrel
    by_cases h1 : j < n
    · obtain ⟨b, off, ea, hb, hcell⟩ := HH.out.at_.resolve_left (by omega)
      have q0 := hcell j h1
      have C1 := notSame_calls B (l.getD j default) s x.val ((HH.out.get j).later x.below) (HS.out.later x.below) (by rw [x.cell 0 hB]; exact HCS.out)
      have ST : Hid (sameR (l.getD j default).vs s.vs = true → ∀ k, k < j + 1 → (l.getD k default).vs = s.vs) := Lib.hid (fun e k hk => by
        by_cases hkj : k = j
        · subst hkj; simpa [sameR] using e
        · exact he.out k (by omega))
      have SF : Hid (sameR (l.getD j default).vs s.vs = false → idxL (vss l) s.vs = (j : Nat)) := Lib.hid (fun e => by
        have := lead_hit (X := vss l) (r := s.vs) (j := j) (fun k hk => by rw [vss_getD]; exact he.out k hk) (by rw [vss_len, HN.out]; exact h1) (by rw [vss_getD]; simpa [sameR] using e)
        unfold idxL
        rw [this, vss_len, HN.out, if_neg (by omega)])
      subst ea
      clear hcell he
      generalize l.getD j default = u at *
      obtain ⟨ra, len, cap, vs⟩ := u
      simp only [Rw.enc] at q0 C1
      have C1' : Hid (Calls Try.prog 53 #[.slice ra len cap, .pointer (some ⟨B, 0, none⟩)] x.val fun e w' => e = .returned (.bool (!sameR vs s.vs)) ∧ Cls x.val w') := Lib.hid C1
      clear C1
      simp only at ST SF
      cases hz : sameR vs s.vs
      · have HG := Lib.hid (SF.out hz)
        clear SF ST
        rw [hz] at C1'
        go_wp2_with (go_at_call 53; ((with_reducible refine (Cls.call C1'.out).mono ?_); rintro e _ ⟨rfl, y, rfl⟩))
        go_ret
        exact ⟨ret_int HG.out.symm, y, rfl⟩
      · have HG := Lib.hid (ST.out hz)
        clear SF ST
        rw [hz] at C1'
        go_wp2_with (go_at_call 53; ((with_reducible refine (Cls.call C1'.out).mono ?_); rintro e _ ⟨rfl, y, rfl⟩))
        go_roundw
        case rel => exact ⟨j + 1, by omega, by go_num, HG, y, rfl⟩
        case measure => simp [intOf]; omega
    · have HG : Hid (idxL (vss l) s.vs = -1) := Lib.hid (by
        have := lead_all (X := vss l) (r := s.vs) (fun k hk => by rw [vss_getD]; rw [vss_len, HN.out] at hk; exact he.out k (by omega))
        unfold idxL
        rw [if_pos this])
      clear he
      go_wp2_with fail
      go_ret
      exact ⟨ret_int HG.out.symm, x, rfl⟩
set_option maxHeartbeats 2000000 in
theorem leading_calls (a : Option Addr) (n c : Nat) (l : List Rw) (s : Rw) (w : World) (h : Rws w a n l) (hs : s.Ok w) (hn : n ≤ 10000) :
    Calls Try.prog 46 #[.slice a n c, s.enc] w fun e w' => e = .returned (.int .i64 (lead (vss l) s.vs : Nat)) ∧ Cls w w' := by
  have HN : Hid (l.length = n) := Lib.hid h.ln
  have C : Hid (∀ W, Below w.heap.size w W → W.cell? ⟨w.heap.size, 0, none⟩ = some s.enc → w.heap.size < W.heap.size → Calls Try.prog 52 #[.slice a n c, .func (.func 53) #[] #[.pointer (some ⟨w.heap.size, 0, none⟩)]] W
      fun e w' => e = .returned (.int .i64 (idxL (vss l) s.vs)) ∧ Cls W w') := Lib.hid fun W hW hc hlt => Index_calls a n c l s w.heap.size W (h.later hW) (hs.later hW) hlt hc hn
  have HL : Hid (lead (vss l) s.vs ≤ n) := Lib.hid (by have := lead_le (vss l) s.vs; rw [vss_len, HN.out] at this; exact this)
  have HI : Hid (idxL (vss l) s.vs = if lead (vss l) s.vs = n then (-1 : Int) else ((lead (vss l) s.vs : Nat) : Int)) := Lib.hid (by unfold idxL; rw [vss_len, HN.out])
  clear h hs
  obtain ⟨ra, len, cap, vs⟩ := s
  simp only [Rw.enc] at *
  generalize idxL (vss l) vs = q at *
  generalize lead (vss l) vs = m at *
  have hm := HL.out
  have hq := HI.out
  by_cases he : m = n
  · rw [if_pos he] at hq
    subst hq he
    clear HI HL HN
    go_enter Try.func46, Try.ntmps46
    go_wp2_with (go_at_call 52; ((with_reducible refine (C.out _ ((Below.refl _ _).alloc (Nat.le_refl _) _) (by simp) (by simp)).mono ?_); rintro e _ ⟨rfl, y, rfl⟩))
    go_ret
    refine ⟨rfl, Cls.of (y.on ((Below.refl _ _).alloc (Nat.le_refl _) _) (by simp))⟩
  · rw [if_neg he] at hq
    subst hq
    clear HI HL HN
    have h0 : ¬ ((m : Int) < 0) := by omega
    go_enter Try.func46, Try.ntmps46
    go_wp2_with (go_at_call 52; ((with_reducible refine (C.out _ ((Below.refl _ _).alloc (Nat.le_refl _) _) (by simp) (by simp)).mono ?_); rintro e _ ⟨rfl, y, rfl⟩))
    go_ret
    refine ⟨rfl, Cls.of (y.on ((Below.refl _ _).alloc (Nat.le_refl _) _) (by simp))⟩
/-- The least row of two ascending lists that are not both empty. -/
def fstR (l l' : List Rw) : Rw := if l'.length = 0 ∨ (0 < l.length ∧ cmpL (l.getD 0 default).vs (l'.getD 0 default).vs < 0) then l.getD 0 default else l'.getD 0 default
theorem fstR_ok {w : World} {a a' : Option Addr} {n n' : Nat} {l l' : List Rw} (h : Rws w a n l) (h' : Rws w a' n' l') : (fstR l l').Ok w := by
  unfold fstR; split
  · exact h.get 0
  · exact h'.get 0
theorem fstR_mem {l l' : List Rw} (h : 0 < l.length ∨ 0 < l'.length) : (fstR l l').vs ∈ vss l ∨ (fstR l l').vs ∈ vss l' := by
  have key : ∀ {k : List Rw}, 0 < k.length → (k.getD 0 default).vs ∈ vss k := fun {k} hk => by
    have : k.getD 0 default = k[0] := by simp [List.getD, hk]
    rw [this]; exact List.mem_map_of_mem (List.getElem_mem hk)
  unfold fstR; split
  · rename_i hc
    left; apply key
    rcases hc with hc | hc
    · omega
    · exact hc.1
  · rename_i hc
    right; apply key
    omega
theorem asc_head {l : List Rw} (h : Asc (vss l)) : ∀ x ∈ vss l, cmpL (l.getD 0 default).vs x ≤ 0 := by
  cases l with
  | nil => intro x hx; cases hx
  | cons a l =>
    intro x hx
    rcases List.mem_cons.1 hx with rfl | hx
    · simp [cmpL_self]
    · exact (List.pairwise_cons.1 h).1 x hx
theorem fstR_le {l l' : List Rw} (h : Asc (vss l)) (h' : Asc (vss l')) (hp : 0 < l.length ∨ 0 < l'.length) : (∀ x ∈ vss l, cmpL (fstR l l').vs x ≤ 0) ∧ ∀ x ∈ vss l', cmpL (fstR l l').vs x ≤ 0 := by
  unfold fstR; split
  · rename_i hc
    refine ⟨asc_head h, fun x hx => ?_⟩
    rcases hc with hc | hc
    · obtain rfl := List.eq_nil_of_length_eq_zero hc
      cases hx
    · exact cmpL_trans (Int.le_of_lt hc.2) (asc_head h' x hx)
  · rename_i hc
    refine ⟨fun x hx => ?_, asc_head h'⟩
    have h1 : 0 < l'.length := by omega
    have h2 : 0 < l.length := by have := List.length_pos_of_mem hx; rwa [vss_len] at this
    have h3 : ¬ cmpL (l.getD 0 default).vs (l'.getD 0 default).vs < 0 := fun e => hc (.inr ⟨h2, e⟩)
    have := cmpL_neg (l.getD 0 default).vs (l'.getD 0 default).vs
    exact cmpL_trans (by omega) (asc_head h x hx)
set_option maxHeartbeats 2000000 in
theorem first_calls (a : Option Addr) (n c : Nat) (l : List Rw) (a' : Option Addr) (n' c' : Nat) (l' : List Rw) (w : World) (h : Rws w a n l) (h' : Rws w a' n' l') (hp : 0 < n ∨ 0 < n') (hn : n ≤ 10000) (hn' : n' ≤ 10000) :
    Calls Try.prog 45 #[.slice a n c, .slice a' n' c'] w fun e w' => e = .returned (fstR l l').enc ∧ Cls w w' := by
  have HN := h.ln
  have HN' := h'.ln
  have O0 := h.get 0
  have O0' := h'.get 0
  by_cases h1 : n' = 0
  · have hf : fstR l l' = l.getD 0 default := by unfold fstR; rw [if_pos (.inl (by omega))]
    rw [hf]
    obtain ⟨b, off, ea, hb, hcell⟩ := h.at_.resolve_left (by omega)
    have q0 : w.cell? ⟨b, off, none⟩ = some (l.getD 0 default).enc := hcell 0 (by omega)
    have hnz : 0 < n := by omega
    have hnz2 : (0 : Int) < (n : Int) := by omega
    clear h h' hcell hf HN HN' O0 O0'
    generalize l.getD 0 default = u at *
    obtain ⟨ra, len, cap, vs⟩ := u
    subst h1 ea
    simp only [Rw.enc] at *
    go_enter Try.func45, Try.ntmps45
    go_wp2_with fail
    refine wp_region_ext (by kernel_rfl) (by kernel_rfl) ?_
    repeat (go_big_quiet_step (fail))
    refine wpQuiet_nil ?_
    rintro _ ⟨y, rfl⟩
    go_wp2_with fail
    go_ret
    exact ⟨rfl, y, rfl⟩
  · have hnz' : 0 < n' := by omega
    have hnz2' : (0 : Int) < (n' : Int) := by omega
    have hbe : ((n' : Int) == 0) = false := by rw [beq_eq_false_iff_ne]; omega
    obtain ⟨b', off', ea', hb', hcell'⟩ := h'.at_.resolve_left (by omega)
    have q0' : w.cell? ⟨b', off', none⟩ = some (l'.getD 0 default).enc := hcell' 0 (by omega)
    by_cases h2 : n = 0
    · have hf : fstR l l' = l'.getD 0 default := by unfold fstR; rw [if_neg (by omega)]
      rw [hf]
      clear h h' hcell' hf HN HN' O0 O0'
      generalize l'.getD 0 default = u at *
      obtain ⟨ra, len, cap, vs⟩ := u
      subst h2 ea'
      simp only [Rw.enc] at *
      go_enter Try.func45, Try.ntmps45
      go_wp2_with fail
      refine wp_region_ext (by kernel_rfl) (by kernel_rfl) ?_
      repeat (go_big_quiet_step (fail))
      refine wpQuiet_nil ?_
      rintro _ ⟨y, rfl⟩
      go_wp2_with fail
      go_ret
      exact ⟨rfl, y, rfl⟩
    · obtain ⟨b, off, ea, hb, hcell⟩ := h.at_.resolve_left (by omega)
      have q0 : w.cell? ⟨b, off, none⟩ = some (l.getD 0 default).enc := hcell 0 (by omega)
      have hnz : 0 < n := by omega
      have hnz2 : (0 : Int) < (n : Int) := by omega
      have hf : fstR l l' = if cmpL (l.getD 0 default).vs (l'.getD 0 default).vs < 0 then l.getD 0 default else l'.getD 0 default := by
        unfold fstR
        by_cases hc : cmpL (l.getD 0 default).vs (l'.getD 0 default).vs < 0
        · rw [if_pos hc, if_pos (.inr ⟨by omega, hc⟩)]
        · rw [if_neg hc, if_neg (by omega)]
      rw [hf]
      clear h h' hcell hcell' hf HN HN'
      generalize l.getD 0 default = u at *
      generalize l'.getD 0 default = v at *
      have C : Hid (∀ W, Below w.heap.size w W → Calls Try.prog 49 #[u.enc, v.enc] W fun e w' => e = .returned (.int .i64 (cmpL u.vs v.vs)) ∧ Cls W w') := Lib.hid fun W hW => CompareRows_calls _ _ _ _ _ _ _ _ W (O0.later hW).holds (O0'.later hW).holds O0.le O0'.le O0.cap O0'.cap
      clear O0 O0'
      obtain ⟨ra, len, cap, vs⟩ := u
      obtain ⟨ra', len', cap', vs'⟩ := v
      subst ea ea'
      simp only [Rw.enc] at *
      generalize cmpL vs vs' = q at *
      by_cases hc : q < 0
      · rw [if_pos hc]
        go_enter Try.func45, Try.ntmps45
        go_wp2_with fail
        refine wp_region_ext (by kernel_rfl) (by kernel_rfl) ?_
        repeat (go_big_quiet_step ((go_at_call 49; exact Cls.call (C.out _ (Ext.below _)))))
        refine wpQuiet_nil ?_
        rintro _ ⟨y, rfl⟩
        go_wp2_with fail
        go_ret
        exact ⟨rfl, y, rfl⟩
      · rw [if_neg hc]
        go_enter Try.func45, Try.ntmps45
        go_wp2_with fail
        refine wp_region_ext (by kernel_rfl) (by kernel_rfl) ?_
        repeat (go_big_quiet_step ((go_at_call 49; exact Cls.call (C.out _ (Ext.below _)))))
        refine wpQuiet_nil ?_
        rintro _ ⟨y, rfl⟩
        go_wp2_with fail
        go_ret
        exact ⟨rfl, y, rfl⟩
end Go.Proofs.Ytihdfomkphbdnaa
