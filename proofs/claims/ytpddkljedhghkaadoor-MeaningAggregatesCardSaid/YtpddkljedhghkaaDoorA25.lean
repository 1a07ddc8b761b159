/-
  Which expressions the laws look at, and the size of an expression, for all expressions. Aggregates and rows that came in. MeaningAggregates: what the law does, whatever aggregate, rows and number it is given.
-/
import Derived.Test.YtpddkljedhghkaaDoorA08
import Derived.BigQuiet
import Derived.Test.YtpddkljedhghkaaDoorA24
import Derived.Laws.StructEq
set_option linter.unusedVariables false
namespace Go.Proofs.YtpddkljedhghkaaDoor
open Go Go.RowKit
mutual
def fewB : Ex → Nat → Bool
  | .mk _ _ _ t _ l, d => if 60 < d then false else if 12 < l.length then false else if 200 < t.size then false else fewL l (d + 1)
def fewL : List Ex → Nat → Bool
  | [], _ => true
  | k :: r, d => if fewB k d = true then fewL r d else false
end
theorem fewB_eq (e : Ex) (d : Nat) : fewB e d = if 60 < d then false else if 12 < e.kids.length then false else if 200 < e.text.size then false else fewL e.kids (d + 1) := by
  cases e; unfold fewB; rfl
mutual
def sizeW : Ex → Int
  | .mk _ _ _ _ _ l => sizeL l 1
def sizeL : List Ex → Int → Int
  | [], n => n
  | k :: r, n => sizeL r (wrap64 (n + sizeW k))
end
theorem sizeW_eq (e : Ex) : sizeW e = sizeL e.kids 1 := by
  cases e; simp only [sizeW, Ex.kids]
theorem fewL_go {l : List Ex} {j d : Nat} (h : j < l.length) (hk : fewB (l.getD j Ex.z) d = true) : fewL (l.drop j) d = fewL (l.drop (j + 1)) d := by
  rw [dropE h, fewL, if_pos hk]
theorem fewL_stop {l : List Ex} {j d : Nat} (h : j < l.length) (hk : fewB (l.getD j Ex.z) d = false) : fewL (l.drop j) d = false := by
  rw [dropE h, fewL, if_neg (by rw [hk]; exact Bool.false_ne_true)]
theorem sizeL_go {l : List Ex} {j : Nat} {n : Int} (h : j < l.length) : sizeL (l.drop j) n = sizeL (l.drop (j + 1)) (wrap64 (n + sizeW (l.getD j Ex.z))) := by
  rw [dropE h, sizeL]

set_option maxHeartbeats 2000000 in
theorem few_calls : ∀ (e : Ex) (d : Nat) (a : Option Addr) (len cap : Nat) (ok : Nat → Prop) (w : World), Kids w ok a len cap e.kids → e.text.size ≤ maxLen → d ≤ 61 →
    Calls Tryd.prog 65 #[.agg #[.int .i64 e.op, .int .i64 e.ty, .int .i64 e.num, .string e.text, .int .i64 e.col, .slice a len cap], .int .i64 (d : Nat)] w fun r w' => r = .returned (.bool (fewB e d)) ∧ Cls w w' := by
  refine Ex.ind fun e ih => ?_
  intro d a len cap ok w hk ht hd
  have hlen := hk.len_eq
  have hle := hk.le
  have hmax := hk.max
  unfold maxLen at hmax ht
  by_cases h1 : 60 < d
  · have d1 : decide (60 < (d : Int)) = true := by simp; omega
    go_enter Tryd.func65, Tryd.ntmps65
    go_wp2_with fail
    all_goals
      go_ret
      refine ⟨ret_bool (by rw [fewB_eq, if_pos h1]), Cls.of ?_⟩
      repeat first | with_reducible exact Below.refl _ _ | with_reducible refine Below.setCell ?_ (by first | omega | (simp; done) | (simp; omega)) _ | with_reducible refine Below.alloc ?_ (by first | omega | (simp; done) | (simp; omega)) _ | with_reducible refine Below.drew ?_ | with_reducible refine Ext.on _ ?_ (by first | omega | (simp; done) | (simp; omega))
  · have d1 : decide (60 < (d : Int)) = false := by simp; omega
    by_cases h2 : 12 < len
    · have d2 : decide (12 < (len : Int)) = true := by simp; omega
      go_enter Tryd.func65, Tryd.ntmps65
      go_wp2_with fail
      all_goals
        go_ret
        refine ⟨ret_bool (by rw [fewB_eq, if_neg h1, if_pos (by omega)]), Cls.of ?_⟩
        repeat first | with_reducible exact Below.refl _ _ | with_reducible refine Below.setCell ?_ (by first | omega | (simp; done) | (simp; omega)) _ | with_reducible refine Below.alloc ?_ (by first | omega | (simp; done) | (simp; omega)) _ | with_reducible refine Below.drew ?_ | with_reducible refine Ext.on _ ?_ (by first | omega | (simp; done) | (simp; omega))
    · have d2 : decide (12 < (len : Int)) = false := by simp; omega
      by_cases h3 : 200 < e.text.size
      · have d3 : decide (200 < (e.text.size : Int)) = true := by simp; omega
        go_enter Tryd.func65, Tryd.ntmps65
        go_wp2_with fail
        all_goals
          go_ret
          refine ⟨ret_bool (by rw [fewB_eq, if_neg h1, if_neg (by omega), if_pos h3]), Cls.of ?_⟩
          repeat first | with_reducible exact Below.refl _ _ | with_reducible refine Below.setCell ?_ (by first | omega | (simp; done) | (simp; omega)) _ | with_reducible refine Below.alloc ?_ (by first | omega | (simp; done) | (simp; omega)) _ | with_reducible refine Below.drew ?_ | with_reducible refine Ext.on _ ?_ (by first | omega | (simp; done) | (simp; omega))
      · have d3 : decide (200 < (e.text.size : Int)) = false := by simp; omega
        have HL := Lib.hid hlen
        have HE : Hid (fewB e d = fewL e.kids (d + 1)) := Lib.hid (by rw [fewB_eq, if_neg h1, if_neg (by omega), if_neg h3])
        clear hlen
        go_enter Tryd.func65, Tryd.ntmps65
        go_wp2_with fail
        go_loopw [5] (fun i wr => ∃ j : Nat, j ≤ len ∧ i = .int .i64 j ∧ fewB e d = fewL (e.kids.drop j) (d + 1) ∧ Cls (w.alloc (.cells #[.int .i64 e.op, .int .i64 e.ty, .int .i64 e.num, .string e.text, .int .i64 e.col, .slice a len cap] 30)) wr) (fun i _ => len - (intOf i).toNat)
        case atStart => exact ⟨0, Nat.zero_le _, rfl, HE.out, Cls.of (Below.refl _ _)⟩
        case round =>
          clear HE
          obtain ⟨j, hj, rfl, he, x, rfl⟩ := hrel
          have HE := Lib.hid he
          clear he
          by_cases hlt : j < len
          · obtain ⟨a', len', cap', ⟨b, off, rfl, hb, hok, q0, q1, q2, q3, q4, q5⟩, hfine, hk'⟩ := hk.at_ hlt
            have hb1 : b < w.heap.size + 1 := by omega
            have hmem := getD_mem (l := e.kids) (i := j) (by rw [HL.out]; exact hlt)
            have HK : Hid (Kids x.val ok a' len' cap' (e.kids.getD j Ex.z).kids) := Lib.hid ((hk'.later ((Below.refl _ _).alloc (Nat.le_refl _) _)).later x.below)
            have HT : Hid ((e.kids.getD j Ex.z).text.size ≤ maxLen) := Lib.hid hfine.2.2.2.1
            have hd1 : (d : Int) + 1 = ((d + 1 : Nat) : Int) := by omega
            have C1 : Hid (Calls Tryd.prog 65 #[.agg #[.int .i64 (e.kids.getD j Ex.z).op, .int .i64 (e.kids.getD j Ex.z).ty, .int .i64 (e.kids.getD j Ex.z).num, .string (e.kids.getD j Ex.z).text, .int .i64 (e.kids.getD j Ex.z).col, .slice a' len' cap'], .int .i64 ((d : Int) + 1)] x.val fun r w' => r = .returned (.bool (fewB (e.kids.getD j Ex.z) (d + 1))) ∧ Cls x.val w') := Lib.hid (by rw [hd1]; exact ih _ hmem (d + 1) a' len' cap' ok x.val HK.out HT.out (by omega))
            clear hk hk' hfine hmem hd1 ih
            cases hb2 : fewB (e.kids.getD j Ex.z) (d + 1)
            all_goals
              have HB := Lib.hid hb2
              rw [hb2] at C1
              clear hb2
              go_wp2_with (go_at_call 65; ((refine (Cls.call C1.out).mono ?_); rintro r _ ⟨rfl, y, rfl⟩))
            · go_ret
              refine ⟨ret_bool (by rw [HE.out, fewL_stop (by rw [HL.out]; exact hlt) HB.out]), Cls.of ?_⟩
              repeat first | with_reducible exact Below.refl _ _ | with_reducible refine Below.setCell ?_ (by first | omega | (simp; done) | (simp; omega)) _ | with_reducible refine Below.alloc ?_ (by first | omega | (simp; done) | (simp; omega)) _ | with_reducible refine Below.drew ?_ | with_reducible refine Ext.on _ ?_ (by first | omega | (simp; done) | (simp; omega))
            · go_roundw
              case rel => exact ⟨j + 1, by omega, by go_num, by rw [HE.out, fewL_go (by rw [HL.out]; exact hlt) HB.out], y, rfl⟩
              case measure => simp [intOf]; omega
          · go_wp2_with fail
            go_ret
            refine ⟨ret_bool (by rw [HE.out, List.drop_of_length_le (by rw [HL.out]; omega), fewL]), Cls.of ?_⟩
            repeat first | with_reducible exact Below.refl _ _ | with_reducible refine Below.setCell ?_ (by first | omega | (simp; done) | (simp; omega)) _ | with_reducible refine Below.alloc ?_ (by first | omega | (simp; done) | (simp; omega)) _ | with_reducible refine Below.drew ?_ | with_reducible refine Ext.on _ ?_ (by first | omega | (simp; done) | (simp; omega))
set_option maxHeartbeats 2000000 in
theorem Size_calls : ∀ (e : Ex) (a : Option Addr) (len cap : Nat) (ok : Nat → Prop) (w : World), Kids w ok a len cap e.kids →
    Calls Tryd.prog 12 #[.agg #[.int .i64 e.op, .int .i64 e.ty, .int .i64 e.num, .string e.text, .int .i64 e.col, .slice a len cap]] w fun r w' => r = .returned (.int .i64 (sizeW e)) ∧ Cls w w' := by
  refine Ex.ind fun e ih => ?_
  intro a len cap ok w hk
  have hlen := hk.len_eq
  have hle := hk.le
  have hmax := hk.max
  unfold maxLen at hmax
  have HL := Lib.hid hlen
  have HE : Hid (sizeW e = sizeL e.kids 1) := Lib.hid (sizeW_eq e)
  clear hlen
  go_enter Tryd.func12, Tryd.ntmps12
  go_wp2_with fail
  go_loopw [3, 4] (fun n i wr => ∃ (j : Nat) (m : Int), j ≤ len ∧ i = .int .i64 j ∧ n = .int .i64 m ∧ sizeW e = sizeL (e.kids.drop j) m ∧ Cls (w.alloc (.cells #[.int .i64 e.op, .int .i64 e.ty, .int .i64 e.num, .string e.text, .int .i64 e.col, .slice a len cap] 30)) wr) (fun _ i _ => len - (intOf i).toNat)
  case atStart => exact ⟨0, 1, Nat.zero_le _, rfl, rfl, HE.out, Cls.of (Below.refl _ _)⟩
  case round =>
    clear HE
    obtain ⟨j, m, hj, rfl, rfl, he, x, rfl⟩ := hrel
    have HE := Lib.hid he
    clear he
    by_cases hlt : j < len
    · obtain ⟨a', len', cap', ⟨b, off, rfl, hb, hok, q0, q1, q2, q3, q4, q5⟩, hfine, hk'⟩ := hk.at_ hlt
      have hb1 : b < w.heap.size + 1 := by omega
      have hmem := getD_mem (l := e.kids) (i := j) (by rw [HL.out]; exact hlt)
      have HK : Hid (Kids x.val ok a' len' cap' (e.kids.getD j Ex.z).kids) := Lib.hid ((hk'.later ((Below.refl _ _).alloc (Nat.le_refl _) _)).later x.below)
      have C1 := Lib.hid (ih _ hmem a' len' cap' ok x.val HK.out)
      clear hk hk' hfine hmem ih
      go_wp2_with (go_at_call 12; ((refine (Cls.call C1.out).mono ?_); rintro r _ ⟨rfl, y, rfl⟩))
      go_roundw
      case rel => exact ⟨j + 1, _, by omega, by go_num, rfl, by rw [HE.out, sizeL_go (by rw [HL.out]; exact hlt)]; rfl, y, rfl⟩
      case measure => simp [intOf]; omega
    · go_wp2_with fail
      go_ret
      refine ⟨ret_int (by rw [HE.out, List.drop_of_length_le (by rw [HL.out]; omega), sizeL]), Cls.of ?_⟩
      repeat first | with_reducible exact Below.refl _ _ | with_reducible refine Below.setCell ?_ (by first | omega | (simp; done) | (simp; omega)) _ | with_reducible refine Below.alloc ?_ (by first | omega | (simp; done) | (simp; omega)) _ | with_reducible refine Below.drew ?_ | with_reducible refine Ext.on _ ?_ (by first | omega | (simp; done) | (simp; omega))
def bigB (e : Ex) : Bool := if fewB e 0 = true then decide (sizeW e ≤ 600) else false
set_option maxHeartbeats 1000000 in
theorem Few_calls (e : Ex) (a : Option Addr) (len cap : Nat) (ok : Nat → Prop) (w : World) (hk : Kids w ok a len cap e.kids) (ht : e.text.size ≤ maxLen) :
    Calls Tryd.prog 24 #[.agg #[.int .i64 e.op, .int .i64 e.ty, .int .i64 e.num, .string e.text, .int .i64 e.col, .slice a len cap]] w fun r w' => r = .returned (.bool (bigB e)) ∧ Cls w w' := by
  have HK := Lib.hid hk
  have C1 : Hid (∀ x : Ext (w.alloc (.cells #[.int .i64 e.op, .int .i64 e.ty, .int .i64 e.num, .string e.text, .int .i64 e.col, .slice a len cap] 30)), Calls Tryd.prog 65 #[.agg #[.int .i64 e.op, .int .i64 e.ty, .int .i64 e.num, .string e.text, .int .i64 e.col, .slice a len cap], .int .i64 0] x.val fun r w' => r = .returned (.bool (fewB e 0)) ∧ Cls x.val w') := Lib.hid (fun x => few_calls e 0 a len cap ok x.val ((HK.out.later ((Below.refl _ _).alloc (Nat.le_refl _) _)).later x.below) ht (by omega))
  have C2 : Hid (∀ x : Ext (w.alloc (.cells #[.int .i64 e.op, .int .i64 e.ty, .int .i64 e.num, .string e.text, .int .i64 e.col, .slice a len cap] 30)), Calls Tryd.prog 12 #[.agg #[.int .i64 e.op, .int .i64 e.ty, .int .i64 e.num, .string e.text, .int .i64 e.col, .slice a len cap]] x.val fun r w' => r = .returned (.int .i64 (sizeW e)) ∧ Cls x.val w') := Lib.hid (fun x => Size_calls e a len cap ok x.val ((HK.out.later ((Below.refl _ _).alloc (Nat.le_refl _) _)).later x.below))
  have HB : bigB e = if fewB e 0 = true then decide (sizeW e ≤ 600) else false := rfl
  clear hk ht
  cases hf : fewB e 0
  all_goals
    rw [hf] at C1 HB
    have HF := Lib.hid HB
    clear HB hf
    go_enter Tryd.func24, Tryd.ntmps24
    go_wp2_with (first | (go_at_call 65; ((refine (C1.out ⟨_, Below.refl _ _⟩).mono ?_); rintro r _ ⟨rfl, y, rfl⟩)) | (go_at_call 12; ((refine (Cls.call (C2.out _)).mono ?_); rintro r _ ⟨rfl, y2, rfl⟩)))
    go_ret
    refine ⟨ret_bool ?_, Cls.of ?_⟩
    · rw [HF.out]; simp
    · repeat first | with_reducible exact Below.refl _ _ | with_reducible refine Below.setCell ?_ (by first | omega | (simp; done) | (simp; omega)) _ | with_reducible refine Below.alloc ?_ (by first | omega | (simp; done) | (simp; omega)) _ | with_reducible refine Below.drew ?_ | with_reducible refine Ext.on _ ?_ (by first | omega | (simp; done) | (simp; omega))
end Go.Proofs.YtpddkljedhghkaaDoor
set_option linter.unusedVariables false
namespace Go.Proofs.YtpddkljedhghkaaDoor.BG
open Go Go.RowKit Go.ChangeShapes Go.WideShapes Go.Joins Go.Deep
theorem slim_of_few : ∀ (e : Ex) (d : Nat), fewB e d = true → Slim e := by
  refine Ex.ind fun e ih => ?_
  intro d h
  rw [fewB_eq] at h
  split at h
  · cases h
  · split at h
    · cases h
    · split at h
      · cases h
      · have key : ∀ l : List Ex, fewL l (d + 1) = true → ∀ k ∈ l, fewB k (d + 1) = true := by
          intro l
          induction l with
          | nil => intro _ k hk; simp at hk
          | cons x r ih2 =>
            intro hl k hk
            rw [fewL] at hl
            split at hl
            · rcases List.mem_cons.1 hk with rfl | hk
              · assumption
              · exact ih2 hl k hk
            · cases hl
        exact .mk e (by omega) fun k hk => ih k hk (d + 1) (key _ h k hk)
theorem slim_of_big {e : Ex} (h : bigB e = true) : Slim e := by
  unfold bigB at h
  split at h
  · exact slim_of_few e 0 (by assumption)
  · cases h
theorem cellsA7 : Tryd.prog.cellsOf 67 = 7 := by kernel_rfl
theorem cellsA1 : Tryd.prog.cellsOf 3 = 1 := by kernel_rfl
theorem cellsA6 : Tryd.prog.cellsOf 30 = 6 := by kernel_rfl
theorem list7A {α : Type} {l : List α} (h : l.length = 7) : ∃ a b c d e f g, l = [a, b, c, d, e, f, g] := by
  match l, h with
  | [a, b, c, d, e, f, g], _ => exact ⟨a, b, c, d, e, f, g, rfl⟩
section
variable {H : Type} {enc : TypeId × Value → H} {w : World} {base : Nat} {spare : Nat → Bool} {held : Bool}
set_option maxRecDepth 100000 in
theorem open_aggA {r : Reach} {b0 : Nat} {v : Value} {d : DataW H} {p : List MemPlace} (hval : Value.okWide Tryd.prog w r b0 67 v) (h : DataW.Trod enc Tryd.prog w base spare held 67 v d p) :
    ∃ (f : Int) (e : Ex) (a : Option Addr) (len cap : Nat), v = .agg #[.int .i64 f, .int .i64 e.op, .int .i64 e.ty, .int .i64 e.num, .string e.text, .int .i64 e.col, .slice a len cap] ∧ e.fine ∧ Kids w (fun _ => True) a len cap e.kids := by
  obtain ⟨cs, rfl, hsz⟩ := okWide_struct Tryd.underlying67 hval
  obtain ⟨fuel, hf⟩ := h
  obtain ⟨xs, n, hn, hx, hl, hlen, hg⟩ := DataW.trod_struct Tryd.underlying67 hf
  obtain ⟨c0, c1, c2, c3, c4, c5, c6, hcs⟩ := list7A (hl.trans cellsA7)
  match xs, hlen with
  | [y0, y1], _ =>
    have g0 : DataW.trod enc Tryd.prog w base spare held n 3 [c0] = some y0 := by simpa [hcs, cellsA1, cellsA6] using hg 0 _ rfl
    have g1 : DataW.trod enc Tryd.prog w base spare held n 30 [c1, c2, c3, c4, c5, c6] = some y1 := by simpa [hcs, cellsA1, cellsA6] using hg 1 _ rfl
    obtain ⟨d0, d1, d2, d3, d4, d5, z0, z1, z2, z3, z4, z5, m, hnm, hcs2, t0, t1, t2, t3, t4, t5⟩ := trod_struct6 Tryd.underlying30 (by kernel_rfl) cellsEx g1
    simp only [List.cons.injEq, and_true] at hcs2
    obtain ⟨rfl, rfl, rfl, rfl, rfl, rfl⟩ := hcs2
    obtain ⟨kf, ef, _, _⟩ := DataW.trod_int Tryd.underlying3 g0
    obtain ⟨k0, e0, _, f0⟩ := DataW.trod_int Tryd.underlying3 t0
    obtain ⟨k1, e1, _, f1⟩ := DataW.trod_int Tryd.underlying3 t1
    obtain ⟨k2, e2, _, f2⟩ := DataW.trod_int Tryd.underlying2 t2
    obtain ⟨k3, e3, _, f3⟩ := DataW.trod_string Tryd.underlying9 t3
    obtain ⟨k4, e4, _, f4⟩ := DataW.trod_int Tryd.underlying3 t4
    obtain ⟨a', len', cap', l', e5, hk⟩ := open_kids _ _ _ t5
    simp only [List.cons.injEq, and_true] at ef e0 e1 e2 e3 e4 e5
    subst ef e0 e1 e2 e3 e4 e5
    refine ⟨kf, .mk k0 k1 k2 k3 k4 l', a', len', cap', ?_, ⟨f0, f1, f2, f3, f4⟩, hk⟩
    obtain ⟨l⟩ := cs
    simp [Value.cells] at hcs
    simp [hcs, Ex.op, Ex.ty, Ex.num, Ex.text, Ex.col]
theorem trodVN {fuel : Nat} {cs : List Value} {x : DataW H × List MemPlace} (h : DataW.trod enc Tryd.prog w base spare held fuel 39 cs = some x) : ∃ v : Vl, cs = vlC v ∧ v.s.size ≤ maxLen ∧ nOk v := by
  obtain ⟨c0, c1, c2, y0, y1, y2, n, _, e, t0, t1, t2⟩ := one_struct3 Tryd.underlying39 (by kernel_rfl) cellsI4 h
  obtain ⟨k0, e0, _, f0⟩ := DataW.trod_int Tryd.underlying3 t0
  obtain ⟨k1, e1, _, f1⟩ := DataW.trod_int Tryd.underlying2 t1
  obtain ⟨k2, e2, _, f2⟩ := DataW.trod_string Tryd.underlying9 t2
  simp only [List.cons.injEq, and_true] at e0 e1 e2
  subst e0 e1 e2
  exact ⟨⟨k0, k1, k2⟩, e, f2, wf_n f1⟩
theorem open_rowN {fuel : Nat} {cs : List Value} {x : DataW H × List MemPlace} (h : DataW.trod enc Tryd.prog w base spare held fuel 32 cs = some x) : ∃ (s : Sl) (l : List Vl), cs = [s.v] ∧ s.len = l.length ∧ RowIs w s.a s.len s.cap l ∧ ∀ v ∈ l, nOk v := by
  obtain ⟨s, cell, rfl, hs, hc⟩ := open_sl Tryd.underlying32 cellsI4 (by omega) h
  have hi : ∀ i, i < s.len → ∃ v : Vl, cell i = vlC v ∧ v.s.size ≤ maxLen ∧ nOk v := fun i hi => by
    obtain ⟨_, m, y, _, ht⟩ := hc i hi
    exact trodVN ht
  obtain ⟨f, hf⟩ := Go.Deep.choose_lt hi
  have hm : ∀ v ∈ (List.range s.len).map f, ∃ i, i < s.len ∧ f i = v := fun v hv => by
    obtain ⟨i, h1, h2⟩ := List.mem_map.1 hv
    exact ⟨i, List.mem_range.1 h1, h2⟩
  refine ⟨s, (List.range s.len).map f, rfl, by simp, ⟨by simp, hs.1, hs.2.1, fun v hv => ?_, ?_⟩, fun v hv => ?_⟩
  · obtain ⟨i, h1, rfl⟩ := hm v hv
    exact (hf i h1).2.1
  · by_cases h0 : s.len = 0
    · exact .inl h0
    · obtain ⟨b, off, ha, hb, _⟩ := hs.2.2.2 0 (by omega)
      refine .inr ⟨b, off, ha, hb, fun i hil => ?_⟩
      obtain ⟨b', off', ha', _, hcc⟩ := hs.2.2.2 i hil
      rw [ha] at ha'
      obtain ⟨rfl, rfl⟩ : b = b' ∧ off = off' := by simpa using ha'
      have hg : ((List.range s.len).map f).getD i Vl.z = f i := by simp [List.getD, hil]
      rw [hg]
      have c0 := hcc 0 (by omega)
      have c1 := hcc 1 (by omega)
      have c2 := hcc 2 (by omega)
      rw [(hf i hil).1] at c0 c1 c2
      exact ⟨c0, c1, c2⟩
  · obtain ⟨i, h1, rfl⟩ := hm v hv
    exact (hf i h1).2.2
set_option maxRecDepth 100000 in
theorem open_RL {r : Reach} {b0 : Nat} {v : Value} {d : DataW H} {p : List MemPlace} (hval : Value.okWide Tryd.prog w r b0 68 v) (h : DataW.Trod enc Tryd.prog w base spare held 68 v d p) :
    ∃ (a : Option Addr) (n c : Nat) (L : List (List Vl)), v = .slice a n c ∧ RL w a n c L := by
  obtain ⟨a0, len0, cap0, rfl⟩ := okWide_slice Tryd.underlying68 hval
  obtain ⟨fuel, hf⟩ := h
  obtain ⟨s, cell, hcs, hs, hc⟩ := open_sl Tryd.underlying68 cellsI3 (by omega) hf
  have hi : ∀ i, i < s.len → ∃ (u : Sl) (l : List Vl), cell i = [u.v] ∧ u.len = l.length ∧ RowIs w u.a u.len u.cap l ∧ ∀ v ∈ l, nOk v := fun i hi => by
    obtain ⟨_, m, y, _, ht⟩ := hc i hi
    exact open_rowN ht
  obtain ⟨u, hu⟩ := Go.Deep.choose_lt hi
  obtain ⟨l, hl⟩ := Go.Deep.choose_lt hu
  obtain ⟨sa, sn, sc⟩ := s
  simp [Value.cells, Sl.v] at hcs
  obtain ⟨rfl, rfl, rfl⟩ := hcs
  refine ⟨a0, len0, cap0, (List.range len0).map l, rfl, by simp, hs.1, hs.2.1, fun j hj => ?_, fun r hr => ?_⟩
  · obtain ⟨b, off, ha, hb, hcc⟩ := hs.2.2.2 j hj
    have c0 := hcc 0 (by omega)
    obtain ⟨h1, h2, h3, _⟩ := hl j hj
    rw [h1] at c0
    have hg : ((List.range len0).map l).getD j [] = l j := by
      have : j < len0 := hj
      simp [List.getD, this]
    rw [hg, ← h2]
    rw [Nat.mul_one, Nat.add_zero] at c0
    exact ⟨b, off, (u j).a, (u j).cap, ha, hb, c0, h3⟩
  · obtain ⟨i, h1, rfl⟩ := List.mem_map.1 hr
    exact (hl i (List.mem_range.1 h1)).2.2.2
end
set_option maxHeartbeats 4000000 in
theorem Few7L_calls (a : Option Addr) (n c : Nat) (L : List (List Vl)) (w : World) (h : RL w a n c L) :
    Calls Tryd.prog 23 #[.slice a n c] w fun e w' => ∃ b : Bool, e = .returned (.bool b) ∧ (b = true → n ≤ 80) ∧ Cls w w' := by
  have hle := h.le
  have hmax := h.cp
  unfold maxLen at hmax
  have HR : Hid (∀ j, j < n → ∃ b off ra rn rc, a = some ⟨b, off, none⟩ ∧ b < w.heap.size ∧ w.cell? ⟨b, off + j, none⟩ = some (.slice ra rn rc) ∧ rn ≤ maxLen) := Lib.hid fun j hj => by
    obtain ⟨b, off, ra, rc, ea, hb, hc, hr⟩ := h.at_ j hj
    exact ⟨b, off, ra, _, rc, ea, hb, hc, Nat.le_trans hr.2.1 hr.2.2.1⟩
  clear h
  by_cases h80 : 80 < n
  · have d1 : decide ((80 : Int) < (n : Int)) = true := by simp; omega
    go_enter Tryd.func23, Tryd.ntmps23
    go_wp2_with fail
    go_ret
    exact ⟨false, rfl, (fun h => by cases h), Cls.of (Below.refl _ _)⟩
  · have d1 : decide ((80 : Int) < (n : Int)) = false := by simp; omega
    go_enter Tryd.func23, Tryd.ntmps23
    go_wp2_with fail
    go_loopw [3] (fun i wr => ∃ j : Nat, j ≤ n ∧ i = .int .i64 j ∧ Cls w wr) (fun i _ => n - (intOf i).toNat)
    case atStart => exact ⟨0, Nat.zero_le _, rfl, Cls.of (Below.refl _ _)⟩
    case round =>
      obtain ⟨j, hj, rfl, x, rfl⟩ := hrel
      by_cases hlt : j < n
      · obtain ⟨b, off, ra, rn, rc, ea, hb, q0, hl⟩ := HR.out j hlt
        subst ea
        unfold maxLen at hl
        obtain ⟨g1, g2, g3, g4, g5⟩ := x.lts hb
        go_wp2_with fail
        all_goals first
          | (go_ret
             exact ⟨false, rfl, (fun h => by cases h), x, rfl⟩)
          | (go_roundw
             case rel => exact ⟨j + 1, by omega, by go_num, x, rfl⟩
             case measure => simp [intOf]; omega)
      · go_wp2_with fail
        go_ret
        exact ⟨true, rfl, (fun _ => by omega), x, rfl⟩
end Go.Proofs.YtpddkljedhghkaaDoor.BG
set_option linter.unusedVariables false
namespace Go.Proofs.YtpddkljedhghkaaDoor.BG
open Go Go.RowKit
def colX (m : Int) : Ex := .mk 5 0 0 ⟨#[]⟩ m []
theorem colX_kids (m : Int) (W : World) : Kids W (fun _ => True) none 0 0 (colX m).kids := .none
theorem colX_slim (m : Int) : Slim (colX m) := .mk _ (by show 0 ≤ 12; omega) (fun k hk => by cases hk)
set_option maxHeartbeats 16000000 in
set_option maxRecDepth 100000 in
theorem meaningAggregates_walk (f : Int) (e : Ex) (ka : Option Addr) (kl kc : Nat) (a : Option Addr) (n c : Nat) (L : List (List Vl)) (m : Int) (w : World) (hf : e.fine) (hk : Kids w (fun _ => True) ka kl kc e.kids) (h : RL w a n c L) (hm : (Lit.int .i64 m).wf = true) (ho : OpsTab w) :
    Calls Tryd.prog 6 #[.agg #[.int .i64 f, .int .i64 e.op, .int .i64 e.ty, .int .i64 e.num, .string e.text, .int .i64 e.col, .slice ka kl kc], .slice a n c, .int .i64 m] w fun r w' => r = .returned (.bool true) ∧ Below w.heap.size w w' := by
  have hkm := hk.max
  have hkl := hk.le
  have hnc := h.le
  have hcm := h.cp
  unfold maxLen at hkm hcm
  have hcf : (colX m).fine := ⟨(by decide : (Lit.int .i64 5).wf = true), (by decide : (Lit.int .i64 0).wf = true), (by decide : (Lit.int .i64 0).wf = true), by unfold maxLen; show (0 : Nat) ≤ _; omega, hm⟩
  have F7 : Hid (∀ W, Below w.heap.size w W → Calls Tryd.prog 23 #[.slice a n c] W fun e w' => ∃ b : Bool, e = .returned (.bool b) ∧ (b = true → n ≤ 80) ∧ Cls W w') := Lib.hid fun W hW => Few7L_calls a n c L W (h.later hW)
  have F2 : Hid (∀ W, Below w.heap.size w W → Calls Tryd.prog 24 #[.agg #[.int .i64 e.op, .int .i64 e.ty, .int .i64 e.num, .string e.text, .int .i64 e.col, .slice ka kl kc]] W fun r w' => r = .returned (.bool (bigB e)) ∧ Cls W w') := Lib.hid fun W hW => Few_calls e ka kl kc _ W (hk.later hW) hf.2.2.2.1
  have HX : Hid (n ≤ 80 → ∀ g : Int, ∃ v : Vl, (∀ W, Below w.heap.size w W → Calls Tryd.prog 25 #[.agg #[.int .i64 g, .int .i64 5, .int .i64 0, .int .i64 0, .string ⟨#[]⟩, .int .i64 m, .slice none 0 0], .slice a n c] W fun r w' => r = .returned (.agg #[.int .i64 v.k, .int .i64 v.n, .string v.s]) ∧ Cls W w') ∧
      ∀ W, Below w.heap.size w W → Calls Tryd.prog 26 #[.agg #[.int .i64 g, .int .i64 5, .int .i64 0, .int .i64 0, .string ⟨#[]⟩, .int .i64 m, .slice none 0 0], .slice a n c] W fun r w' => r = .returned (.agg #[.int .i64 v.k, .int .i64 v.n, .string v.s]) ∧ Cls W w') := Lib.hid fun h8 g =>
    ⟨aggF g n (srtV (knownL (colX m) L)), fun W hW => Aggregate_calls g (colX m) none 0 0 _ a n c L W (colX_kids m W) hcf (h.later hW) (by omega) (ho.later hW), fun W hW => rAggregate_calls g (colX m) none 0 0 _ a n c L W (colX_kids m W) hcf (colX_slim m) (h.later hW) (by omega)⟩
  have HA : Hid (n ≤ 80 → bigB e = true → ∃ v : Vl, (∀ W, Below w.heap.size w W → Calls Tryd.prog 25 #[.agg #[.int .i64 f, .int .i64 e.op, .int .i64 e.ty, .int .i64 e.num, .string e.text, .int .i64 e.col, .slice ka kl kc], .slice a n c] W fun r w' => r = .returned (.agg #[.int .i64 v.k, .int .i64 v.n, .string v.s]) ∧ Cls W w') ∧
      ∀ W, Below w.heap.size w W → Calls Tryd.prog 26 #[.agg #[.int .i64 f, .int .i64 e.op, .int .i64 e.ty, .int .i64 e.num, .string e.text, .int .i64 e.col, .slice ka kl kc], .slice a n c] W fun r w' => r = .returned (.agg #[.int .i64 v.k, .int .i64 v.n, .string v.s]) ∧ Cls W w') := Lib.hid fun h8 hb =>
    ⟨aggF f n (srtV (knownL e L)), fun W hW => Aggregate_calls f e ka kl kc _ a n c L W (hk.later hW) hf (h.later hW) (by omega) (ho.later hW), fun W hW => rAggregate_calls f e ka kl kc _ a n c L W (hk.later hW) hf (slim_of_big hb) (h.later hW) (by omega)⟩
  clear h hk hf ho hm hcf
  have hbl1 : (w.alloc (.cells #[.int .i64 f, .int .i64 e.op, .int .i64 e.ty, .int .i64 e.num, .string e.text, .int .i64 e.col, .slice ka kl kc] 67)).heap[w.heap.size]? = some (.cells #[.int .i64 f, .int .i64 e.op, .int .i64 e.ty, .int .i64 e.num, .string e.text, .int .i64 e.col, .slice ka kl kc] 67) := heap_alloc_new w _
  have HBL1 := Lib.hid hbl1
  have HB0 : Hid (Below w.heap.size w (w.alloc (.cells #[.int .i64 f, .int .i64 e.op, .int .i64 e.ty, .int .i64 e.num, .string e.text, .int .i64 e.col, .slice ka kl kc] 67))) := Lib.hid (by repeat first | with_reducible exact Below.refl _ _ | with_reducible refine Below.setCell ?_ (by first | omega | (simp; done) | (simp; omega)) _ | with_reducible refine Below.alloc ?_ (by first | omega | (simp; done) | (simp; omega)) _ | with_reducible refine Below.drew ?_ | with_reducible refine Ext.on _ ?_ (by first | omega | (simp; done) | (simp; omega)))
  have h0s : (w.alloc (.cells #[.int .i64 f, .int .i64 e.op, .int .i64 e.ty, .int .i64 e.num, .string e.text, .int .i64 e.col, .slice ka kl kc] 67)).heap.size ≥ w.heap.size + 1 := by simp
  have h0a : w.heap.size < (w.alloc (.cells #[.int .i64 f, .int .i64 e.op, .int .i64 e.ty, .int .i64 e.num, .string e.text, .int .i64 e.col, .slice ka kl kc] 67)).heap.size := by omega
  clear hbl1
  go_enter Tryd.func6, Tryd.ntmps6
  cases hbb : bigB e
  all_goals
    rw [hbb] at F2 HA
    clear hbb
    go_wp2_with (first | (go_at_call 23; ((with_reducible refine (F7.out _ HB0.out).mono ?_); rintro r _ ⟨b1, rfl, hb1, y, rfl⟩; have HF1 := Lib.hid hb1; clear hb1; have ys := y.size; obtain ⟨l1, l2, l3, l4, l5⟩ := y.lts h0a; cases b1)) | (go_at_call 24; ((with_reducible refine (F2.out _ (y.on HB0.out (by omega))).mono ?_); rintro r _ ⟨rfl, y2, rfl⟩; have ys2 := y2.size)))
  · go_ret
    exact ⟨rfl, y.on HB0.out (by omega)⟩
  · go_ret
    exact ⟨rfl, y2.on (y.on HB0.out (by omega)) (by omega)⟩
  · go_ret
    exact ⟨rfl, y.on HB0.out (by omega)⟩
  · have h8 : n ≤ 80 := HF1.out trivial
    have HS1 := Lib.hid ((y2.below.block _ l1).trans ((y.below.block _ h0a).trans HBL1.out))
    have HBY : Hid (Below w.heap.size w y2.val) := Lib.hid (y2.on (y.on HB0.out (by omega)) (by omega))
    have hY : w.heap.size < y2.val.heap.size := by omega
    have HX2 := Lib.hid (HX.out h8)
    obtain ⟨v, c1, c2⟩ := HA.out h8 trivial
    have C1 := Lib.hid c1
    have C2 := Lib.hid c2
    clear HX HA F2 F7 HF1 HBL1 HB0 h0s h0a l1 l2 l3 l4 l5 ys ys2 c1 c2
    generalize y2.val = Y at *
    go_loopw [7] (fun i wr => ∃ g : Int, 1 ≤ g ∧ g ≤ 7 ∧ i = .int .i64 g ∧ Cls Y wr) (fun i _ => (7 - intOf i).toNat)
    case atStart => exact ⟨1, by omega, by omega, rfl, Cls.of (Below.refl _ _)⟩
    case round =>
      obtain ⟨g, hg1, hg7, rfl, x, rfl⟩ := hrel
      have xs := x.size
      have HBX : Hid (Below w.heap.size w x.val) := Lib.hid (HBY.out.trans (x.below.mono (by omega)))
      have HS2 := Lib.hid ((x.below.block _ hY).trans HS1.out)
      by_cases hg : g ≤ 6
      · obtain ⟨u, c1, c2⟩ := HX2.out g
        have D1 := Lib.hid c1
        have D2 := Lib.hid c2
        have HEQ := eqIn_vl u.k u.n u.s u.k u.n u.s
        have hee : eqv ⟨u.k, u.n, u.s⟩ ⟨u.k, u.n, u.s⟩ = true := eqv_iff.2 rfl
        rw [hee] at HEQ
        clear c1 c2 hee
        have HBA : Hid (Below w.heap.size w (x.val.alloc (.cells #[.int .i64 g, .int .i64 5, .int .i64 0, .int .i64 0, .string ⟨#[]⟩, .int .i64 m, .slice none 0 0] 67))) := Lib.hid (HBX.out.alloc (by have := HBX.out.size; omega) _)
        have HYA : Hid (Below Y.heap.size Y (x.val.alloc (.cells #[.int .i64 g, .int .i64 5, .int .i64 0, .int .i64 0, .string ⟨#[]⟩, .int .i64 m, .slice none 0 0] 67))) := Lib.hid (x.below.alloc xs _)
        have HBL := Lib.hid (heap_alloc_new x.val (.cells #[.int .i64 g, .int .i64 5, .int .i64 0, .int .i64 0, .string ⟨#[]⟩, .int .i64 m, .slice none 0 0] 67))
        have hal : (x.val.alloc (.cells #[.int .i64 g, .int .i64 5, .int .i64 0, .int .i64 0, .string ⟨#[]⟩, .int .i64 m, .slice none 0 0] 67)).heap.size ≥ Y.heap.size := by simp; omega
        have hg6 : decide (g ≤ 6) = true := by simpa using hg
        go_wp2_with fail
        generalize (x.val.alloc (.cells #[.int .i64 g, .int .i64 5, .int .i64 0, .int .i64 0, .string ⟨#[]⟩, .int .i64 m, .slice none 0 0] 67)) = WA at *
        obtain ⟨b0, g0, g1, g2, g3, g4, g5, g6⟩ := seven_z HBL.out
        refine wp_region_ext (by kernel_rfl) (by kernel_rfl) ?_
        repeat (go_big_quiet_step (first | (go_at_call 25; exact Cls.call (D1.out _ (Ext.on _ HBA.out (by have := HBA.out.size; omega)))) | (go_at_call 26; exact Cls.call (D2.out _ (Ext.on _ HBA.out (by have := HBA.out.size; omega))))))
        refine wpQuiet_nil ?_
        rintro _ ⟨y4, rfl⟩
        go_wp2_with fail
        go_roundw
        case rel => exact ⟨g + 1, by omega, by omega, by go_num, Cls.of (y4.on HYA.out (by omega))⟩
        case measure => simp [intOf]; omega
      · have hg6 : decide (g ≤ 6) = false := by simpa using hg
        have HEQ := eqIn_vl v.k v.n v.s v.k v.n v.s
        have hee : eqv ⟨v.k, v.n, v.s⟩ ⟨v.k, v.n, v.s⟩ = true := eqv_iff.2 rfl
        rw [hee] at HEQ
        clear hee
        obtain ⟨b0, g0, g1, g2, g3, g4, g5, g6⟩ := seven_z HS2.out
        have hxw := HBX.out.size
        go_wp2_with fail
        generalize x.val = X at *
        refine wp_region_ext (by kernel_rfl) (by kernel_rfl) ?_
        repeat (go_big_quiet_step (first | (go_at_call 25; exact Cls.call (C1.out _ (Ext.on _ HBX.out hxw))) | (go_at_call 26; exact Cls.call (C2.out _ (Ext.on _ HBX.out hxw)))))
        refine wpQuiet_nil ?_
        rintro _ ⟨y4, rfl⟩
        go_wp2_with fail
        go_ret
        exact ⟨rfl, y4.on HBX.out hxw⟩
end Go.Proofs.YtpddkljedhghkaaDoor.BG
