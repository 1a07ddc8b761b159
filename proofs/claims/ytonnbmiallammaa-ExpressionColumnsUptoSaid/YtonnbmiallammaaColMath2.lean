/-
  Shifting and columns: a shift back undoes a shift, and the columns of a shifted expression are as many.
-/
import Derived.Test.YtonnbmiallammaaColSort
import Derived.Test.YtonnbmiallammaaRShift
import Derived.Test.YtonnbmiallammaaFew
set_option linter.unusedVariables false
namespace Go.Proofs.Ytonnbmiallammaa
open Go Go.RowKit Go.Deep
theorem slim_of_few : ∀ (e : Ex) (d : Nat), fewB e d = true → Slim e := by
  refine Ex.ind fun e ih => ?_
  intro d h
  rw [fewB_eq] at h
  split at h
  · cases h
  · split at h
    · cases h
    · split at h
      · cases h
      · have key : ∀ l : List Ex, fewL l (d + 1) = true → ∀ k ∈ l, fewB k (d + 1) = true := by
          intro l
          induction l with
          | nil => intro _ k hk; simp at hk
          | cons x r ih2 =>
            intro hl k hk
            rw [fewL] at hl
            split at hl
            · rcases List.mem_cons.1 hk with rfl | hk
              · assumption
              · exact ih2 hl k hk
            · cases hl
        exact .mk e (by omega) fun k hk => ih k hk (d + 1) (key _ h k hk)
theorem slim_of_big {e : Ex} (h : bigB e = true) : Slim e := by
  unfold bigB at h
  split at h
  · exact slim_of_few e 0 (by assumption)
  · cases h
theorem slim_shift (d : Int) : ∀ e : Ex, Slim e → Slim (shiftE e d) := by
  refine Ex.ind fun e ih => ?_
  intro h
  refine .mk _ (by rw [shiftE_kids, List.length_map]; exact h.le) fun k hk => ?_
  rw [shiftE_kids] at hk
  obtain ⟨k', hk', rfl⟩ := List.mem_map.1 hk
  exact ih k' hk' (h.kid k' hk')
theorem wrap_back {c d : Int} (h : (Lit.int .i64 c).wf = true) : wrap64 (wrap64 (c + d) + -d) = c := by
  have h1 : IntKind.i64.min = -9223372036854775808 := by decide
  have h2 : IntKind.i64.max = 9223372036854775807 := by decide
  simp only [Lit.wf, Bool.and_eq_true, decide_eq_true_eq] at h
  rw [h1, h2] at h
  unfold wrap64
  omega
theorem ext_ext : ∀ (a b : Ex), a.op = b.op → a.ty = b.ty → a.num = b.num → a.text = b.text → a.col = b.col → a.kids = b.kids → a = b
  | .mk _ _ _ _ _ _, .mk _ _ _ _ _ _, rfl, rfl, rfl, rfl, rfl, rfl => rfl
theorem shift_back (d : Int) : ∀ (e : Ex) (w : World) (ok : Nat → Prop) (a : Option Addr) (len cap : Nat), e.fine → Kids w ok a len cap e.kids → shiftE (shiftE e d) (-d) = e := by
  refine Ex.ind fun e ih => ?_
  intro w ok a len cap hf hk
  have hkids : (shiftE (shiftE e d) (-d)).kids = e.kids := by
    rw [shiftE_kids, shiftE_kids, List.map_map]
    refine List.ext_getElem (by simp) fun i h1 h2 => ?_
    have hl := hk.len_eq
    obtain ⟨a', len', cap', _, hf', hk'⟩ := hk.at_ (i := i) (by omega)
    have hg : e.kids.getD i Ex.z = e.kids[i] := by simp [List.getD, h2]
    rw [hg] at hf' hk'
    rw [List.getElem_map]
    exact ih _ (List.getElem_mem h2) w ok a' len' cap' hf' hk'
  refine ext_ext _ _ (by rw [shiftE_op, shiftE_op]) (by rw [shiftE_ty, shiftE_ty]) (by rw [shiftE_num, shiftE_num]) (by rw [shiftE_text, shiftE_text]) ?_ hkids
  rw [shiftE_col, shiftE_op, shiftE_col]
  split
  · exact wrap_back hf.2.2.2.2
  · rfl
theorem cntE_shift (d : Int) : ∀ e : Ex, cntE (shiftE e d) = cntE e := by
  refine Ex.ind fun e ih => ?_
  have key : ∀ l : List Ex, (∀ k ∈ l, cntE (shiftE k d) = cntE k) → cntL (l.map (shiftE · d)) = cntL l := by
    intro l
    induction l with
    | nil => intro _; rfl
    | cons k r ih2 =>
      intro hk
      rw [List.map_cons, cntL, cntL, hk k (List.mem_cons_self ..), ih2 fun k' hk' => hk k' (List.mem_cons_of_mem _ hk')]
  rw [cntE_eq, cntE_eq, shiftE_text, shiftE_kids, key _ ih]
theorem colsE_shift (d : Int) : ∀ e : Ex, colsE (shiftE e d) = (colsE e).map fun c => wrap64 (c + d) := by
  refine Ex.ind fun e ih => ?_
  have key : ∀ l : List Ex, (∀ k ∈ l, colsE (shiftE k d) = (colsE k).map fun c => wrap64 (c + d)) → colsL (l.map (shiftE · d)) = (colsL l).map fun c => wrap64 (c + d) := by
    intro l
    induction l with
    | nil => intro _; rfl
    | cons k r ih2 =>
      intro hk
      rw [List.map_cons, colsL, colsL, hk k (List.mem_cons_self ..), ih2 fun k' hk' => hk k' (List.mem_cons_of_mem _ hk'), List.map_append]
  rw [colsE_eq, colsE_eq, shiftE_op, shiftE_kids, key _ ih, shiftE_col, List.map_append]
  split <;> simp
theorem nodup_len : ∀ {l m : List Int}, l.Nodup → (∀ x ∈ l, x ∈ m) → l.length ≤ m.length
  | [], _, _, _ => Nat.zero_le _
  | a :: l, m, h, hs => by
    obtain ⟨h1, h2⟩ := List.nodup_cons.1 h
    have ha : a ∈ m := hs a (List.mem_cons_self ..)
    have h3 := nodup_len (m := m.erase a) h2 fun x hx => by
      have hne : x ≠ a := fun e => h1 (e ▸ hx)
      exact (List.mem_erase_of_ne hne).2 (hs x (List.mem_cons_of_mem _ hx))
    have h4 := List.length_erase_of_mem ha
    have h5 := List.length_pos_of_mem ha
    rw [List.length_cons]
    omega
theorem asc_nodup {l : List Int} (h : Asc l) : l.Nodup := h.imp fun h => by omega
theorem rc_le (e : Ex) (d : Int) : (rcE (shiftE e d)).length ≤ (rcE e).length := by
  obtain ⟨h1, h2⟩ := rcE_spec (shiftE e d)
  obtain ⟨g1, g2⟩ := rcE_spec e
  have h := nodup_len (m := (rcE e).map fun c => wrap64 (c + d)) (asc_nodup h1) fun x hx => by
    have hx := (h2 x).1 hx
    rw [colsE_shift] at hx
    obtain ⟨c, hc, rfl⟩ := List.mem_map.1 hx
    exact List.mem_map.2 ⟨c, (g2 c).2 hc, rfl⟩
  rwa [List.length_map] at h
theorem rc_same {e : Ex} {w : World} {ok : Nat → Prop} {a : Option Addr} {len cap : Nat} (d : Int) (hf : e.fine) (hk : Kids w ok a len cap e.kids) : (rcE (shiftE e d)).length = (rcE e).length := by
  have h1 := rc_le e d
  have h2 := rc_le (shiftE e d) (-d)
  rw [shift_back d e w ok a len cap hf hk] at h2
  omega
set_option maxHeartbeats 4000000 in
set_option maxRecDepth 20000 in
theorem sameI_calls (s s' : Sl) (l : List Int) (w : World) (h : IntsIn w s l) (h' : IntsIn w s' l) :
    Calls Try.prog 8 #[.slice s.a s.len s.cap, .slice s'.a s'.len s'.cap] w fun r w' => r = .returned (.bool true) ∧ Cls w w' := by
  have hl : s.len = l.length := h.1
  have hl' : s'.len = l.length := h'.1
  have hc : s.len ≤ s.cap := h.2.1
  have hc' : s'.len ≤ s'.cap := h'.2.1
  have hm : s.cap ≤ maxLen := h.2.2.1
  have hm' : s'.cap ≤ maxLen := h'.2.2.1
  unfold maxLen at hm hm'
  have H := Lib.hid h
  have H' := Lib.hid h'
  have HL := Lib.hid hl
  clear h h'
  obtain ⟨a, n, c⟩ := s
  obtain ⟨a', n', c'⟩ := s'
  simp only at hl hl' hc hc' hm hm' HL ⊢
  obtain rfl : n = n' := by omega
  clear hl hl'
  go_enter Try.func8, Try.ntmps8
  go_wp2_with fail
  go_loopw [5] (fun i wr => ∃ j : Nat, j ≤ n ∧ i = .int .i64 j ∧ Cls w wr) (fun i _ => n - (intOf i).toNat)
  case atStart => exact ⟨0, Nat.zero_le _, rfl, Cls.of (Below.refl _ _)⟩
  case round =>
    obtain ⟨j, hj, rfl, x, rfl⟩ := hrel
    by_cases hlt : j < n
    · obtain ⟨b, off, ha, hb, q⟩ := H.out.at_ (j := j) (by have := HL.out; omega)
      obtain ⟨b', off', ha', hb', q'⟩ := H'.out.at_ (j := j) (by have := HL.out; omega)
      simp only at ha ha'
      subst ha ha'
      generalize l.getD j 0 = v at q q'
      go_wp2_with fail
      refine wp_region_on (by kernel_rfl) (by kernel_rfl) ?_
      repeat (go_big_quiet_step (fail))
      refine wpQuiet_nil ?_
      rintro _ ⟨y, rfl⟩
      go_wp2_with fail
      go_roundw
      case rel => exact ⟨j + 1, by omega, by go_num, y, rfl⟩
      case measure => simp [intOf]; omega
    · go_wp2_with fail
      go_ret
      exact ⟨ret_bool rfl, x, rfl⟩
end Go.Proofs.Ytonnbmiallammaa
