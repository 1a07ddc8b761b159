/-
  Bags that came in: what they hold; Few.
-/
import Derived.Test.YtihdfomkphbdnaaBTell
set_option linter.unusedVariables false
namespace Go.Proofs.Ytihdfomkphbdnaa
open Go Go.RowKit Go.ChangeShapes Go.WideShapes
/-- A row that came in, however long. -/
structure Rw.Okx (w : World) (r : Rw) : Prop where
  holds : Holds w r.a r.len r.vs
  le : r.len ≤ r.cap
  cap : r.cap ≤ maxLen
structure Rwx (w : World) (a : Option Addr) (len cap : Nat) (l : List Rw) : Prop where
  ln : l.length = len
  le : len ≤ cap
  cp : cap ≤ maxLen
  nn : a = none → cap = 0
  ok : ∀ r ∈ l, r.Okx w
  at_ : len = 0 ∨ ∃ b off, a = some ⟨b, off, none⟩ ∧ b < w.heap.size ∧ ∀ i, i < len → w.cell? ⟨b, off + i, none⟩ = some (l.getD i default).enc
theorem Rwx.rws {w : World} {a : Option Addr} {len cap : Nat} {l : List Rw} (h : Rwx w a len cap l) (hs : ∀ r ∈ l, r.len ≤ 20) : Rws w a len l :=
  ⟨h.ln, fun r hr => ⟨(h.ok r hr).holds, (h.ok r hr).le, (h.ok r hr).cap, by have := hs r hr; omega⟩, h.at_⟩
theorem cellsRow : Try.prog.cellsOf 24 = 1 := by kernel_rfl
section
variable {H : Type} {enc : TypeId × Value → H} {w : World} {spare : Nat → Bool} {held : Bool}
theorem open_rowF {fuel : Nat} {cs : List Value} {x : DataW H × List MemPlace} (h : DataW.trod enc Try.prog w 0 spare held fuel 24 cs = some x) : ∃ r : Rw, cs = [r.enc] ∧ r.Okx w := by
  rcases Go.Deep.open_slice Try.underlying24 h with ⟨hcs, _⟩ | ⟨x, len, cap, m, n, D, Pl, hcs, hb, hl, hm, hmm, _, hi⟩
  · exact ⟨⟨none, 0, 0, []⟩, hcs, ⟨rfl, .inl rfl⟩, Nat.le_refl _, Nat.zero_le _⟩
  · have hel : ∀ i, i < len → ∃ u : Vl, w.cell? (x.add (i * 3)) = some (.int .i64 u.k) ∧ w.cell? (x.add (i * 3 + 1)) = some (.int .i64 u.n) ∧ w.cell? (x.add (i * 3 + 2)) = some (.string u.s) := fun i hil => by
      obtain ⟨cs', hc, ht⟩ := hi i (by rw [hmm]; split <;> omega)
      rw [cellsVl] at hc
      obtain ⟨_, hcl, hat⟩ := World.cells?_some hc
      obtain ⟨c0, c1, c2, rfl⟩ := list3 hcl
      obtain ⟨y0, y1, y2, n', _, _, t0, t1, t2⟩ := Go.Deep.trod_struct3 Try.underlying40 ht
      rw [cellsInt] at t0
      rw [cellsInt64] at t1
      rw [cellsStr] at t2
      obtain ⟨k, e0, _⟩ := DataW.trod_int Try.underlying3 t0
      obtain ⟨nn, e1, _⟩ := DataW.trod_int Try.underlying2 t1
      obtain ⟨s, e2, _⟩ := DataW.trod_string Try.underlying9 t2
      simp at e0 e1 e2
      subst e0 e1 e2
      have a0 := hat 0 (by omega)
      have a1 := hat 1 (by omega)
      have a2 := hat 2 (by omega)
      rw [Go.Deep.add_add] at a0 a1 a2
      exact ⟨⟨k, nn, s⟩, a0, a1, a2⟩
    obtain ⟨u, hu⟩ := Go.Deep.choose_lt hel
    refine ⟨⟨some x, len, cap, (List.range len).map u⟩, hcs, ⟨by simp, ?_⟩, hl, hm⟩
    by_cases h0 : len = 0
    · exact .inl h0
    · right
      obtain ⟨b, off, spot⟩ := x
      have hz := (hu 0 (by omega)).1
      have hspot : spot = none := by simpa [Addr.add] using World.cell?_spot hz
      subst hspot
      have hadd : ∀ j, (⟨b, off, none⟩ : Addr).add j = ⟨b, off + j, none⟩ := fun j => by unfold Addr.add; split <;> simp_all
      refine ⟨b, off, rfl, cells_lt hz |> fun h => by rw [hadd] at h; exact h, fun i hi' => ?_⟩
      have hg : ((List.range len).map u).getD i Vl.z = u i := by simp [List.getD, show i < len from hi']
      obtain ⟨h1, h2, h3⟩ := hu i hi'
      rw [hadd] at h1 h2 h3
      show w.cell? _ = some (.int .i64 (((List.range len).map u).getD i Vl.z).k) ∧ w.cell? _ = some (.int .i64 (((List.range len).map u).getD i Vl.z).n) ∧ w.cell? _ = some (.string (((List.range len).map u).getD i Vl.z).s)
      rw [hg]
      exact ⟨h1, h2, h3⟩
theorem open_row1 {r : Reach} {b0 : Nat} {v : Value} {d : DataW H} {p : List MemPlace} (hval : Value.okWide Try.prog w r b0 24 v) (h : DataW.Trod enc Try.prog w 0 spare held 24 v d p) :
    ∃ (a : Option Addr) (len cap : Nat) (l : List Vl), v = .slice a len cap ∧ Rw.Okx w ⟨a, len, cap, l⟩ := by
  obtain ⟨a, len, cap, rfl⟩ := okWide_slice Try.underlying24 hval
  obtain ⟨fuel, hf⟩ := h
  obtain ⟨u, hu, hok⟩ := open_rowF hf
  obtain ⟨ua, ul, uc, uv⟩ := u
  have e : Value.slice a len cap = .slice ua ul uc := by simpa [Value.cells, Rw.enc] using hu
  simp only [Value.slice.injEq] at e
  obtain ⟨rfl, rfl, rfl⟩ := e
  exact ⟨a, len, cap, uv, rfl, hok⟩
theorem open_bag {r : Reach} {b0 : Nat} {v : Value} {d : DataW H} {p : List MemPlace} (hval : Value.okWide Try.prog w r b0 22 v) (h : DataW.Trod enc Try.prog w 0 spare held 22 v d p) :
    ∃ (a : Option Addr) (len cap : Nat) (l : List Rw), v = .slice a len cap ∧ Rwx w a len cap l := by
  obtain ⟨a, len, cap, rfl⟩ := okWide_slice Try.underlying22 hval
  obtain ⟨fuel, hf⟩ := h
  rcases Go.Deep.open_slice1 Try.underlying22 cellsRow hf with ⟨hcs, _⟩ | ⟨x, l', c', m, n, V, D, Pl, hcs, hb, hl, hm, hmm, _, hi⟩
  · simp [Value.cells] at hcs
    obtain ⟨rfl, rfl, rfl⟩ := hcs
    exact ⟨none, 0, 0, [], rfl, rfl, Nat.le_refl _, Nat.zero_le _, (fun _ => rfl), (fun r hr => by cases hr), .inl rfl⟩
  · simp [Value.cells] at hcs
    obtain ⟨rfl, rfl, rfl⟩ := hcs
    have hel : ∀ i, i < len → ∃ u : Rw, w.cell? (x.add i) = some u.enc ∧ u.Okx w := fun i hil => by
      obtain ⟨h1, h2⟩ := hi i (by rw [hmm]; split <;> omega)
      obtain ⟨u, hu, hok⟩ := open_rowF h2
      have e := (List.cons.inj hu).1
      rw [e] at h1
      exact ⟨u, h1, hok⟩
    obtain ⟨u, hu⟩ := Go.Deep.choose_lt hel
    refine ⟨some x, len, cap, (List.range len).map u, rfl, by simp, hl, hm, (fun h => by cases h), fun r hr => ?_, ?_⟩
    · obtain ⟨i, hi', rfl⟩ := List.mem_map.1 hr
      exact (hu i (List.mem_range.1 hi')).2
    · by_cases h0 : len = 0
      · exact .inl h0
      · right
        obtain ⟨b, off, spot⟩ := x
        have hz := (hu 0 (by omega)).1
        have hspot : spot = none := by simpa [Addr.add] using World.cell?_spot hz
        subst hspot
        have hadd : ∀ j, (⟨b, off, none⟩ : Addr).add j = ⟨b, off + j, none⟩ := fun j => by unfold Addr.add; split <;> simp_all
        refine ⟨b, off, rfl, cells_lt hz |> fun h => by rw [hadd] at h; exact h, fun i hi' => ?_⟩
        have hg : ((List.range len).map u).getD i default = u i := by simp [List.getD, hi']
        have h1 := (hu i hi').1
        rw [hadd] at h1
        rw [hg]
        exact h1
end
/-- Whether a bag is small enough. -/
def fewB (n : Nat) (l : List Rw) : Bool := decide (n ≤ 80) && l.all fun r => decide (r.len ≤ 20)
theorem fewB_iff {n : Nat} {l : List Rw} : fewB n l = true ↔ n ≤ 80 ∧ ∀ r ∈ l, r.len ≤ 20 := by
  unfold fewB
  rw [Bool.and_eq_true, List.all_eq_true]
  simp
set_option maxHeartbeats 2000000 in
theorem Few_calls (a : Option Addr) (n c : Nat) (l : List Rw) (w : World) (h : Rwx w a n c l) :
    Calls Try.prog 8 #[.slice a n c] w fun e w' => e = .returned (.bool (fewB n l)) ∧ Cls w w' := by
  have hle := h.le
  have hcap := h.cp
  unfold maxLen at hcap
  by_cases hn : n ≤ 80
  · have hlt : ¬ ((80 : Int) < (n : Int)) := by omega
    have HH := Lib.hid h
    have HN := Lib.hid h.ln
    clear h
    go_enter Try.func8, Try.ntmps8
    go_wp2_with fail
    go_loopw [3] (fun i wr => ∃ j : Nat, j ≤ n ∧ i = .int .i64 ((j : Nat) : Int) ∧ Hid (∀ k, k < j → (l.getD k default).len ≤ 20) ∧ Cls w wr) (fun i _ => n - (intOf i).toNat)
    case atStart => exact ⟨0, Nat.zero_le _, rfl, Lib.hid (fun k hk => absurd hk (Nat.not_lt_zero _)), Cls.of (Below.refl _ _)⟩
    case round =>
      obtain ⟨j, hj, rfl, he, x, rfl⟩ := hrel
      by_cases h1 : j < n
      · obtain ⟨b, off, ea, hb, hcell⟩ := HH.out.at_.resolve_left (by omega)
        have q0 := hcell j h1
        have ST : Hid ((l.getD j default).len ≤ 20 → ∀ k, k < j + 1 → (l.getD k default).len ≤ 20) := Lib.hid (fun e k hk => by
          by_cases hkj : k = j
          · subst hkj; exact e
          · exact he.out k (by omega))
        have SF : Hid (¬ (l.getD j default).len ≤ 20 → fewB n l = false) := Lib.hid (fun e => by
          rw [Bool.eq_false_iff]
          intro ht
          exact e ((fewB_iff.1 ht).2 _ (getD_mem (by rw [HN.out]; exact h1))))
        have hcp : (l.getD j default).len ≤ maxLen := by
          have := HH.out.ok _ (getD_mem (i := j) (by rw [HN.out]; exact h1))
          exact Nat.le_trans this.le this.cap
        unfold maxLen at hcp
        subst ea
        clear hcell he
        generalize l.getD j default = u at *
        obtain ⟨ra, len, cap, vs⟩ := u
        simp only [Rw.enc] at q0
        simp only at ST SF hcp
        by_cases hz : len ≤ 20
        · have HG := Lib.hid (ST.out hz)
          have hz2 : ¬ ((20 : Int) < (len : Int)) := by omega
          clear SF ST
          go_wp2_with fail
          go_roundw
          case rel => exact ⟨j + 1, by omega, by go_num, HG, x, rfl⟩
          case measure => simp [intOf]; omega
        · have HG := Lib.hid (SF.out hz)
          have hz2 : (20 : Int) < (len : Int) := by omega
          clear SF ST
          go_wp2_with fail
          go_ret
          exact ⟨ret_bool HG.out.symm, x, rfl⟩
      · have HG : Hid (fewB n l = true) := Lib.hid (fewB_iff.2 ⟨hn, fun r hr => by
          obtain ⟨k, hk, rfl⟩ := List.mem_iff_getElem.1 hr
          have := he.out k (by rw [HN.out] at hk; omega)
          have e2 : l.getD k default = l[k] := by simp [List.getD, hk]
          rw [e2] at this
          exact this⟩)
        clear he
        go_wp2_with fail
        go_ret
        exact ⟨ret_bool HG.out.symm, x, rfl⟩
  · have hlt : (80 : Int) < (n : Int) := by omega
    have hf : fewB n l = false := by unfold fewB; simp [hn]
    rw [hf]
    clear h
    go_enter Try.func8, Try.ntmps8
    go_wp2_with fail
    go_ret
    exact ⟨rfl, Cls.of (Below.refl _ _)⟩
end Go.Proofs.Ytihdfomkphbdnaa
