/-
  Equal and Count of the reference.
-/
import Derived.Test.YtihdfomkphbdnaaBTrue
set_option linter.unusedVariables false
namespace Go.Proofs.Ytihdfomkphbdnaa
open Go Go.RowKit
set_option maxHeartbeats 4000000 in
theorem Equal_true (a : Option Addr) (n c : Nat) (l : List Rw) (a' : Option Addr) (n' c' : Nat) (l' : List Rw) (w : World) (h : Rws w a n l) (h' : Rws w a' n' l') (hn : n ≤ 10000) (he : vss l = vss l') :
    Calls Try.prog 15 #[.slice a n c, .slice a' n' c'] w fun e w' => e = .returned (.bool true) ∧ Cls w w' := by
  have hnn : n = n' := by have := congrArg List.length he; rw [vss_len, vss_len, h.ln, h'.ln] at this; exact this
  subst hnn
  have HH := Lib.hid h
  have HH' := Lib.hid h'
  have HE := Lib.hid he
  clear h h' he
  go_enter Try.func15, Try.ntmps15
  go_wp2_with fail
  go_loopw [5] (fun i wr => ∃ j : Nat, j ≤ n ∧ i = .int .i64 ((j : Nat) : Int) ∧ Cls w wr) (fun i _ => n - (intOf i).toNat)
  case atStart => exact ⟨0, Nat.zero_le _, rfl, Cls.of (Below.refl _ _)⟩
  case round =>
    obtain ⟨j, hj, rfl, x, rfl⟩ := hrel
    by_cases h1 : j < n
    · obtain ⟨b, off, ea, hb, hcell⟩ := HH.out.at_.resolve_left (by omega)
      obtain ⟨b', off', ea', hb', hcell'⟩ := HH'.out.at_.resolve_left (by omega)
      have q0 := hcell j h1
      have q0' := hcell' j h1
      have o1 := HH.out.get j
      have o2 := HH'.out.get j
      have ev : (l.getD j default).vs = (l'.getD j default).vs := by rw [← vss_getD, ← vss_getD, HE.out]
      subst ea ea'
      clear hcell hcell' HE
      generalize l.getD j default = u at *
      generalize l'.getD j default = v at *
      obtain ⟨ra, rl, rc, rv⟩ := u
      obtain ⟨ra', rl', rc', rv'⟩ := v
      simp only at ev
      subst ev
      have C : Hid (∀ W, Below w.heap.size w W → Calls Try.prog 11 #[.slice ra rl rc, .slice ra' rl' rc'] W fun e w' => e = .returned (.int .i64 0) ∧ Cls W w') := Lib.hid fun W hW => by
        have := rCompareRows_calls _ _ _ _ _ _ _ _ W (o1.later hW).holds (o2.later hW).holds o1.le o2.le o1.cap o2.cap
        rw [cmpL_self] at this
        exact this
      clear o1 o2
      simp only [Rw.enc] at q0 q0'
      go_wp2_with fail
      refine wp_region_on (by kernel_rfl) (by kernel_rfl) ?_
      repeat (go_big_quiet_step ((go_at_call 11; exact Cls.call (C.out _ (Ext.below _)))))
      refine wpQuiet_nil ?_
      rintro _ ⟨y, rfl⟩
      go_wp2_with fail
      go_roundw
      case rel => exact ⟨j + 1, by omega, by go_num, y, rfl⟩
      case measure => simp [intOf]; omega
    · obtain rfl : j = n := by omega
      go_wp2_with fail
      go_ret
      exact ⟨rfl, x, rfl⟩
theorem Combs_eq {f g : Nat → Nat → Nat} {A B A' B' R R' : List Row} (h : CombOf f A B R) (h' : CombOf g A' B' R') (hc : ∀ r, R.count r = R'.count r) : R = R' := asc_unique h.1 h'.1 hc
set_option maxHeartbeats 2000000 in
theorem rCount_calls (a : Option Addr) (n c : Nat) (l : List Rw) (s : Rw) (w : World) (h : Rws w a n l) (hs : s.Ok w) (hn : n ≤ 20000) :
    Calls Try.prog 27 #[.slice a n c, s.enc] w fun e w' => e = .returned (.int .i64 (((vss l).count s.vs : Nat) : Int)) ∧ Cls w w' := by
  have HH := Lib.hid h
  have HS := Lib.hid hs
  have hln := h.ln
  have HC : Hid (∀ r : Rw, r.Ok w → ∀ W, Below w.heap.size w W → Calls Try.prog 11 #[r.enc, s.enc] W fun e w' => e = .returned (.int .i64 (cmpL r.vs s.vs)) ∧ Cls W w') := Lib.hid fun r hr W hW => rCompareRows_calls _ _ _ _ _ _ _ _ W (hr.later hW).holds (hs.later hW).holds hr.le hs.le hr.cap hs.cap
  clear h hs
  obtain ⟨sa, sl, sc, sv⟩ := s
  simp only [Rw.enc] at *
  go_enter Try.func27, Try.ntmps27
  go_wp2_with fail
  go_loopw [5, 6] (fun s5 i wr => ∃ j : Nat, j ≤ n ∧ i = .int .i64 ((j : Nat) : Int) ∧ s5 = .int .i64 ((((vss l).take j).count sv : Nat) : Int) ∧ Cls w wr) (fun _ i _ => n - (intOf i).toNat)
  case atStart => exact ⟨0, Nat.zero_le _, rfl, rfl, Cls.of (Below.refl _ _)⟩
  case round =>
    obtain ⟨j, hj, rfl, rfl, x, rfl⟩ := hrel
    by_cases h1 : j < n
    · obtain ⟨b, off, ea, hb, hcell⟩ := HH.out.at_.resolve_left (by omega)
      have q0 := hcell j h1
      have C1 := HC.out (l.getD j default) (HH.out.get j) x.val x.below
      have hlt : j < (vss l).length := by rw [vss_len]; omega
      have hc : ((vss l).take (j + 1)).count sv = ((vss l).take j).count sv + if sameR (l.getD j default).vs sv = true then 1 else 0 := by
        rw [List.take_succ_eq_append_getElem hlt, List.count_append]
        have : (vss l)[j] = (l.getD j default).vs := by simp [vss, List.getD, show j < l.length by omega]
        rw [this, List.count_singleton]
        unfold sameR
        by_cases e : (l.getD j default).vs = sv
        · simp
        · simp
      have hcb : ((vss l).take j).count sv ≤ 20000 := by
        have := List.count_le_length (a := sv) (l := (vss l).take j)
        rw [List.length_take] at this
        omega
      have HCT := Lib.hid hc
      subst ea
      clear hcell hc hlt
      generalize ((vss l).take j).count sv = k0 at *
      generalize l.getD j default = u at *
      obtain ⟨ra, rl, rc, rv⟩ := u
      simp only [Rw.enc] at q0 C1
      simp only at HCT
      have C1' : Hid (Calls Try.prog 11 #[.slice ra rl rc, .slice sa sl sc] x.val fun e w' => e = .returned (.int .i64 (cmpL rv sv)) ∧ Cls x.val w') := Lib.hid C1
      clear C1
      have hq := sameR_cmp rv sv
      generalize cmpL rv sv = q at *
      generalize sameR rv sv = r at *
      cases r
      · have HK : Hid (((vss l).take (j + 1)).count sv = k0) := Lib.hid (by simpa using HCT.out)
        clear HCT
        go_wp2_with (go_at_call 11; ((with_reducible refine (Cls.call C1'.out).mono ?_); rintro e _ ⟨rfl, y, rfl⟩))
        go_roundw
        case rel => exact ⟨j + 1, by omega, by go_num, by rw [HK.out], y, rfl⟩
        case measure => simp [intOf]; omega
      · have HK : Hid (((vss l).take (j + 1)).count sv = k0 + 1) := Lib.hid (by simpa using HCT.out)
        clear HCT
        go_wp2_with (go_at_call 11; ((with_reducible refine (Cls.call C1'.out).mono ?_); rintro e _ ⟨rfl, y, rfl⟩))
        go_roundw
        case rel => exact ⟨j + 1, by omega, by go_num, by rw [HK.out]; go_num, y, rfl⟩
        case measure => simp [intOf]; omega
    · obtain rfl : j = n := by omega
      have he : (vss l).take j = vss l := List.take_of_length_le (by rw [vss_len]; omega)
      rw [he]
      go_wp2_with fail
      go_ret
      exact ⟨rfl, x, rfl⟩
end Go.Proofs.Ytihdfomkphbdnaa
