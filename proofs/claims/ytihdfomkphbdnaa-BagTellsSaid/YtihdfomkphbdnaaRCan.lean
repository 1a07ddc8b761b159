/-
  The reference's Canonical: the rows sorted by merging, each a copy.
-/
import Derived.Test.YtihdfomkphbdnaaRCopy
import Derived.Test.YtihdfomkphbdnaaLin
set_option linter.unusedVariables false
namespace Go.Proofs.Ytihdfomkphbdnaa
open Go Go.RowKit
/-- What the reference's Canonical gives. -/
def CanOf (w w' : World) (e : Ending) (n : Nat) (A : List Row) : Prop :=
  ∃ a c R, e = .returned (.slice a n c) ∧ Rws w' a n R ∧ n ≤ c ∧ c ≤ maxLen ∧ (vss R).Perm A ∧ Asc (vss R) ∧ ((a = none ∧ c = 0) ∨ ∃ b off, a = some ⟨b, off, none⟩) ∧ Below w.heap.size w w'
theorem Rws.take {w : World} {b off n : Nat} {l : List Rw} (h : Rws w (some ⟨b, off, none⟩) n l) (m : Nat) (hm : m ≤ n) : Rws w (some ⟨b, off, none⟩) m (l.take m) := by
  refine ⟨by rw [List.length_take, h.ln]; omega, fun r hr => h.ok r (List.mem_of_mem_take hr), ?_⟩
  by_cases h0 : m = 0
  · exact .inl h0
  · right
    obtain ⟨b', off', ha, hlt, hc⟩ := h.at_.resolve_left (by omega)
    obtain ⟨rfl, rfl⟩ : b = b' ∧ off = off' := by simpa using ha
    refine ⟨b, off, rfl, hlt, fun i hi => ?_⟩
    rw [hc i (by omega)]
    congr 2
    simp [List.getD, hi]
theorem own_dx {w : World} {base n : Nat} {v : Value} {e : TypeId} {xs : List Value} (h : w.ownsRow base e 1 v n xs) : ∃ a c, v = .slice a n c ∧ ((a = none ∧ c = 0) ∨ ∃ b off, a = some ⟨b, off, none⟩) := by
  rcases h.2 with ⟨rfl, h0⟩ | ⟨g, cap, cur, rfl, _⟩
  · exact ⟨none, 0, by rw [h0], .inl ⟨rfl, rfl⟩⟩
  · exact ⟨_, _, rfl, .inr ⟨g, 0, rfl⟩⟩
/-- A row of one's own, read with its address. -/
theorem Rws.own' {w : World} {base n : Nat} {v : Value} {l : List Rw} (h : w.ownsRow base 24 1 v n (flatR l)) (hok : ∀ r ∈ l, r.Ok w) : ∃ a cap, v = .slice a n cap ∧ n ≤ cap ∧ cap ≤ maxLen ∧ Rws w a n l ∧ ((a = none ∧ cap = 0) ∨ ∃ b off, a = some ⟨b, off, none⟩) := by
  obtain ⟨a, c, rfl, h1, h2, h3⟩ := Rws.own h hok
  obtain ⟨a2, c2, e2, hd⟩ := own_dx h
  simp only [Value.slice.injEq, true_and] at e2
  obtain ⟨rfl, rfl⟩ := e2
  exact ⟨a, c, rfl, h1, h2, h3, hd⟩
set_option maxHeartbeats 4000000 in
theorem rCanonical_small (a : Option Addr) (n c : Nat) (l : List Rw) (w : World) (h : Rws w a n l) (hn : n < 2) :
    Calls Try.prog 17 #[.slice a n c] w fun e w' => CanOf w w' e n (vss l) := by
  obtain ⟨i0, hi, hz0, hz1, hz2⟩ := info_parts infoR
  have HH := Lib.hid h
  have HN := Lib.hid h.ln
  have hlt : (n : Int) < 2 := by omega
  clear h
  go_enter Try.func17, Try.ntmps17
  go_wp2_with fail
  go_loopw [3, 4] (fun s3 s4 wr => ∃ j R, j ≤ n ∧ s4 = .int .i64 ((j : Nat) : Int) ∧ Hid (RowsOwn wr w.heap.size s3 R) ∧ Hid (vss R = (vss l).take j) ∧ Hid (Below w.heap.size w wr)) (fun _ s4 _ => n - (intOf s4).toNat)
  case atStart => exact ⟨0, [], Nat.zero_le _, rfl, Lib.hid (RowsOwn.start _ _), Lib.hid rfl, Lib.hid (Below.refl _ _)⟩
  case round =>
    obtain ⟨j, R, hj, rfl, hR, hE, hBr⟩ := hrel
    have sr := hBr.out.size
    by_cases h1 : j < n
    · obtain ⟨b, off, ea, hb, hcell⟩ := HH.out.at_.resolve_left (by omega)
      have q0 := (hBr.out.cell (p := ⟨b, off + j, none⟩) hb).trans (hcell j h1)
      have hok := (HH.out.get j).later hBr.out
      have hs : Hid ((vss l).take (j + 1) = (vss l).take j ++ [(l.getD j default).vs]) := Lib.hid (by
        have hl : j < (vss l).length := by rw [vss_len, HN.out]; exact h1
        rw [List.take_succ_eq_append_getElem hl]
        congr 2
        simp [vss, List.getD, show j < l.length by rw [HN.out]; exact h1])
      have hlen : R.length + 1 ≤ 4 := by
        have e := congrArg List.length hE.out
        rw [vss_len, List.length_take] at e
        omega
      subst ea
      clear hcell
      generalize l.getD j default = u at *
      obtain ⟨ra, rl, rc, rv⟩ := u
      simp only [Rw.enc] at q0
      have CC : Hid (Calls Try.prog 37 #[.slice ra rl rc] wr fun e w' => ∃ r' : Rw, e = .returned r'.enc ∧ r'.vs = rv ∧ r'.len = rl ∧ r'.Ok w' ∧ (∀ x, r'.a = some x → wr.heap.size ≤ x.block) ∧ Below wr.heap.size wr w') := Lib.hid (copied_calls ⟨ra, rl, rc, rv⟩ wr hok)
      clear hok
      have tok1 : True := trivial
      go_wp2_with (first | (go_at_call 37; ((with_reducible refine CC.out.mono ?_); rintro e w3 ⟨⟨pa, pl, pc, pv⟩, he, hvs, hl3, hx3⟩; have he2 : e = .returned (.slice pa pl pc) := he; clear he; subst he2; have HVS := Lib.hid hvs; clear hvs hl3; have HX3 := Lib.hid hx3; have s3 := hx3.2.2.size; clear hx3)) | (at_builtin; have _t := tok1; refine wpList_append_own_at _ rfl _ _ 22 rfl w.heap.size 24 i0 (.slice none 0 0) 1 24 Try.underlying22 hi hz0 hz1 hz2 rfl (by decide) _ _ _ rfl (own_later' hR.out.1 (HX3.out.2.2.alloc s3 _)) ⟨w3.heap.size, 0, none⟩ 1 1 [.slice pa pl pc] rfl rfl (cells_new' _ _ _) (flatR_one [(⟨pa, pl, pc, pv⟩ : Rw)]) (by unfold maxLen; omega) (by omega) (by simp; omega) ?_; intro v1 w4 hown4 hg4 _ hat4; have HR4 : Hid (RowsOwn w4 w.heap.size v1 (R ++ [(⟨pa, pl, pc, pv⟩ : Rw)])) := Lib.hid (hR.out.snoc (r' := ⟨pa, pl, pc, pv⟩) (HX3.out.2.2.alloc s3 _) (HX3.out.1.later ((Below.refl _ _).alloc (Nat.le_refl _) _)) HX3.out.2.1 hown4 hg4 hat4); have HB4 : Hid (Below w.heap.size w w4) := Lib.hid (Below.grown ((hBr.out.trans (HX3.out.2.2.mono sr)).alloc (by omega) _) hg4 (by simp; omega) (fun k hk => (hR.out.1.lt k hk).1)); clear hown4 hg4 hat4 tok1 _t))
      go_roundw
      case rel => exact ⟨j + 1, R ++ [(⟨pa, pl, pc, pv⟩ : Rw)], by omega, by go_num, HR4, Lib.hid (by rw [hs.out, ← hE.out, ← HVS.out]; simp [vss]), HB4⟩
      case measure => simp [intOf]; omega
    · obtain rfl : n = j := by omega
      have e1 : vss R = vss l := by rw [hE.out, List.take_of_length_le (by rw [vss_len, HN.out]; exact Nat.le_refl _)]
      have hRl : R.length = n := by rw [← vss_len, e1, vss_len, HN.out]
      have HE1 := Lib.hid e1
      have HRL := Lib.hid hRl
      clear e1 hRl
      go_wp2_with fail
      go_ret
      have ho := hR.out.1
      rw [HRL.out] at ho
      obtain ⟨a1, c1, rfl, k1, k2, k3, k4⟩ := Rws.own' ho (fun r hr => (hR.out.2 r hr).1)
      refine ⟨a1, c1, R, rfl, k3, k1, k2, by rw [HE1.out], ?_, k4, hBr.out⟩
      rw [HE1.out]
      have hll : (vss l).length < 2 := by rw [vss_len, HN.out]; exact hn
      generalize vss l = L at *
      match L, hll with
      | [], _ => exact List.Pairwise.nil
      | [x], _ => exact List.pairwise_singleton _ _
end Go.Proofs.Ytihdfomkphbdnaa
