/-
  The walk of the law ExpressionDecides: it returns true for every list of numbers.
-/
import Derived.Test.YtbgbcjgpaoabdaaDoorExprAll
set_option linter.unusedVariables false
namespace Go.Proofs.YtbgbcjgpaoabdaaDoor
open Go Go.RowKit Go.Deep
theorem ExprOf.use {d B : Nat} (h : ExprOf d B) (T m : Nat) (ty : List Int) (k : Int) (a : Option Addr) (len cap : Nat) (w : World) (dd : Int) (hd : dd = (d : Nat)) (h1 : TapeAt T m w) (h2 : IntsAt T w a len cap ty) (h3 : IsTy k) (h4 : m + B ≤ 2 ^ 60) (h5 : len ≤ 1000) :
    Calls Tryd.prog 10 #[.pointer (some ⟨T, 0, none⟩), .slice a len cap, .int .i64 k, .int .i64 dd] w fun r w' => MadeBy T (m + B) ty k w r w' := by
  subst hd; exact h.call T m ty k a len cap w h1 h2 h3 h4 h5
theorem Types_use (T m most : Nat) (mm : Int) (w : World) (h : TapeAt T m w) (h1 : 1 ≤ most) (h2 : most ≤ 100) (hm : m ≤ 2 ^ 60) (hmm : mm = (most : Nat)) :
    Calls Tryd.prog 8 #[.pointer (some ⟨T, 0, none⟩), .int .i64 mm] w fun e w' => ∃ (l : List Int) (a : Option Addr) (cap : Nat), e = .returned (.slice a l.length cap) ∧ 1 ≤ l.length ∧ l.length ≤ most ∧ TyL l ∧ IntsAt T w' a l.length cap l ∧ Tq T (m + 1 + most) w w' := by
  subst hmm; exact Types_calls T m most w h h1 h2 hm
theorem OpsTab.tp {T : Nat} {w w' : World} (h : OpsTab w) (hb : Tp T w w') (hT : 0 ≠ T) : OpsTab w' := by
  refine ⟨Nat.lt_of_lt_of_le h.1 hb.size, fun i hi => ?_⟩
  obtain ⟨h0, h1, h2, h3, h4⟩ := h.2 i hi
  have key : ∀ o, w'.cell? ⟨0, o, none⟩ = w.cell? ⟨0, o, none⟩ := fun o => hb.cell o h.1 hT
  exact ⟨by rw [key]; exact h0, by rw [key]; exact h1, by rw [key]; exact h2, by rw [key]; exact h3, by rw [key]; exact h4⟩
/-- An argument list of numbers. -/
def NumsAt (w : World) (a : Option Addr) (len : Nat) : Prop := len ≤ maxLen ∧ (len = 0 ∨ ∃ b off, a = some ⟨b, off, none⟩ ∧ b < w.heap.size ∧ ∀ i, i < len → ∃ n : Int, (Lit.int .i64 n).wf = true ∧ w.cell? ⟨b, off + i, none⟩ = some (.int .i64 n))
theorem tape_new {w : World} {a : Option Addr} {len cap : Nat} (h : NumsAt w a len) : TapeAt w.heap.size 0 (w.alloc (.cells #[.slice a len cap, .int .i64 0] 25)) := by
  refine ⟨a, len, cap, 0, heap_alloc_new w _, Nat.le_refl _, h.1, h.2.imp id ?_⟩
  rintro ⟨b, off, rfl, hb, hc⟩
  refine ⟨b, off, rfl, hb, fun i hi => ?_⟩
  obtain ⟨n, hn, hq⟩ := hc i hi
  exact ⟨n, hn, by rw [World.cell?_of_block (w := w) (Below.heap_alloc _ _ _ hb)]; exact hq⟩
theorem eval_not (e : Ex) (row : List Vl) : evalE (Ex.node 24 [e]) row = tvV (notT (trV (evalE e row))) := by
  rw [evalE_eq]; rfl
theorem eval_null (e : Ex) (row : List Vl) : evalE (Ex.node 21 [e]) row = ⟨2, b2i ((evalE e row).k == 0), ⟨#[]⟩⟩ := by
  rw [evalE_eq]; rfl
def cntB : List Bool → Nat → Int
  | _, 0 => 0
  | [], _ + 1 => 0
  | b :: l, j + 1 => b2i b + cntB l j
theorem cntB_go (l : List Bool) (j : Nat) (h : j < l.length) : cntB l (j + 1) = cntB l j + b2i (l.getD j false) := by
  induction l generalizing j with
  | nil => simp at h
  | cons b l ih =>
    cases j with
    | zero => cases l <;> simp [cntB]
    | succ j =>
      have := ih j (by simpa using h)
      simp only [cntB, this]
      simp [List.getD]
      omega
theorem cntB_bd (l : List Bool) : ∀ j, 0 ≤ cntB l j ∧ cntB l j ≤ j := by
  induction l with
  | nil => intro j; cases j <;> simp [cntB]; omega
  | cons b l ih =>
    intro j
    cases j with
    | zero => simp [cntB]
    | succ j =>
      have := ih j
      cases b <;> simp [cntB, b2i] <;> omega
def threeB (v : Vl) : List Bool := [decide (trV v = 1), decide (trV (tvV (notT (trV v))) = 1), decide (trV ⟨2, b2i (v.k == 0), ⟨#[]⟩⟩ = 1)]
theorem threeB_one {v : Vl} (h : okV 2 v) : cntB (threeB v) 3 = 1 := by
  obtain ⟨vk, vn, vs⟩ := v
  obtain ⟨h1, h2⟩ := h
  simp only at h1 h2
  rcases h1 with rfl | rfl
  · simp [threeB, cntB, trV, truT, tvV, tvK, tvN, notT, b2i]
  · have : vn = 0 ∨ vn = 1 := by simp [vB] at h2; exact h2.1
    rcases this with rfl | rfl <;> simp [threeB, cntB, trV, truT, tvV, tvK, tvN, notT, b2i]
theorem nd_op (o : Int) (l : List Ex) : (Ex.node o l).op = o := rfl
theorem nd_ty (o : Int) (l : List Ex) : (Ex.node o l).ty = 0 := rfl
theorem nd_num (o : Int) (l : List Ex) : (Ex.node o l).num = 0 := rfl
theorem nd_text (o : Int) (l : List Ex) : (Ex.node o l).text = ⟨#[]⟩ := rfl
theorem nd_col (o : Int) (l : List Ex) : (Ex.node o l).col = 0 := rfl
/-- The three expressions of the law. -/
def threeR (e : Ex) (a : Option Addr) (len cap s : Nat) : List Rec := [⟨e, a, len, cap⟩, ⟨Ex.node 24 [e], some ⟨s, 0, none⟩, 1, 1⟩, ⟨Ex.node 21 [e], some ⟨s + 1, 0, none⟩, 1, 1⟩]
theorem node_fine {op : Int} {l : List Ex} (h1 : -1000000000000 ≤ op) (h2 : op ≤ 1000000000000) : (Ex.node op l).fine :=
  ⟨wf_small h1 h2, wf_small (n := 0) (by decide) (by decide), wf_small (n := 0) (by decide) (by decide), Nat.zero_le _, wf_small (n := 0) (by decide) (by decide)⟩
theorem three_at {e : Ex} {a : Option Addr} {len cap : Nat} {W0 : World} (hf : e.fine) (hk : Kids W0 (fun _ => True) a len cap e.kids) (row : List Vl) :
    ∃ W6, W6 = ((W0.alloc (.cells (Rec.cells ⟨e, a, len, cap⟩).toArray 30)).alloc (.cells (Rec.cells ⟨e, a, len, cap⟩).toArray 30)).alloc (.cells (flatR (threeR e a len cap W0.heap.size)).toArray 30) ∧ Below W0.heap.size W0 W6 ∧
      W0.heap.size + 1 + 1 < W6.heap.size ∧ ∀ j, j < 3 → ∃ r : Rec, trV (evalE r.e row) = trV (evalE r.e row) ∧ decide (trV (evalE r.e row) = 1) = (threeB (evalE e row)).getD j false ∧ r.e.fine ∧ Kids W6 (fun _ => True) r.a r.len r.cap r.e.kids ∧
        W6.cell? ⟨W0.heap.size + 1 + 1, j * 6, none⟩ = some (.int .i64 r.e.op) ∧ W6.cell? ⟨W0.heap.size + 1 + 1, j * 6 + 1, none⟩ = some (.int .i64 r.e.ty) ∧ W6.cell? ⟨W0.heap.size + 1 + 1, j * 6 + 2, none⟩ = some (.int .i64 r.e.num) ∧
        W6.cell? ⟨W0.heap.size + 1 + 1, j * 6 + 3, none⟩ = some (.string r.e.text) ∧ W6.cell? ⟨W0.heap.size + 1 + 1, j * 6 + 4, none⟩ = some (.int .i64 r.e.col) ∧ W6.cell? ⟨W0.heap.size + 1 + 1, j * 6 + 5, none⟩ = some (.slice r.a r.len r.cap) := by
  have hone : (flatR [(⟨e, a, len, cap⟩ : Rec)]) = Rec.cells ⟨e, a, len, cap⟩ := by simp [flatR]
  refine ⟨_, rfl, (((Below.refl _ _).alloc (Nat.le_refl _) _).alloc (by simp) _).alloc (by simp; omega) _, by simp, fun j hj => ?_⟩
  have hb6 := heap_alloc_new ((W0.alloc (.cells (Rec.cells ⟨e, a, len, cap⟩).toArray 30)).alloc (.cells (Rec.cells ⟨e, a, len, cap⟩).toArray 30)) (.cells (flatR (threeR e a len cap W0.heap.size)).toArray 30)
  have hs2 : ((W0.alloc (.cells (Rec.cells ⟨e, a, len, cap⟩).toArray 30)).alloc (.cells (Rec.cells ⟨e, a, len, cap⟩).toArray 30)).heap.size = W0.heap.size + 1 + 1 := by simp
  rw [hs2] at hb6
  have k0 := hk.later ((((Below.refl _ W0).alloc (Nat.le_refl _) (.cells (Rec.cells ⟨e, a, len, cap⟩).toArray 30)).alloc (by simp) (.cells (Rec.cells ⟨e, a, len, cap⟩).toArray 30)).alloc (by simp; omega) (.cells (flatR (threeR e a len cap W0.heap.size)).toArray 30))
  have g1 : ∀ W : World, W.heap[W0.heap.size]? = some (.cells (Rec.cells ⟨e, a, len, cap⟩).toArray 30) → Kids W (fun _ => True) a len cap e.kids → Kids W (fun _ => True) (some ⟨W0.heap.size, 0, none⟩) 1 1 [e] := fun W h1 h2 =>
    (kids_lit (lo := 0) (rs := [⟨e, a, len, cap⟩]) (by rw [hone]; exact h1) (Nat.zero_le _) (by unfold maxLen; simp) (fun r hr => by
      simp only [List.mem_cons, List.not_mem_nil, or_false] at hr; subst hr
      exact ⟨hf, h2.carry (Nat.le_refl _) fun b _ _ => ⟨Nat.zero_le _, rfl⟩⟩)).any
  have g2 : ∀ W : World, W.heap[W0.heap.size + 1]? = some (.cells (Rec.cells ⟨e, a, len, cap⟩).toArray 30) → Kids W (fun _ => True) a len cap e.kids → Kids W (fun _ => True) (some ⟨W0.heap.size + 1, 0, none⟩) 1 1 [e] := fun W h1 h2 =>
    (kids_lit (lo := 0) (rs := [⟨e, a, len, cap⟩]) (by rw [hone]; exact h1) (Nat.zero_le _) (by unfold maxLen; simp) (fun r hr => by
      simp only [List.mem_cons, List.not_mem_nil, or_false] at hr; subst hr
      exact ⟨hf, h2.carry (Nat.le_refl _) fun b _ _ => ⟨Nat.zero_le _, rfl⟩⟩)).any
  have hc : ∀ o, (((W0.alloc (.cells (Rec.cells ⟨e, a, len, cap⟩).toArray 30)).alloc (.cells (Rec.cells ⟨e, a, len, cap⟩).toArray 30)).alloc (.cells (flatR (threeR e a len cap W0.heap.size)).toArray 30)).cell? ⟨W0.heap.size + 1 + 1, o, none⟩ = (flatR (threeR e a len cap W0.heap.size))[o]? := fun o => by
    rw [cell_of_row _ _ _ _ _ (0, 0) hb6]; simp
  obtain ⟨f0, f1, f2, f3, f4, f5⟩ := flatR_at (threeR e a len cap W0.heap.size) j hj
  refine ⟨(threeR e a len cap W0.heap.size).getD j Rec.z, rfl, ?_, ?_, ?_, by rw [hc]; exact f0, by rw [hc]; exact f1, by rw [hc]; exact f2, by rw [hc]; exact f3, by rw [hc]; exact f4, by rw [hc]; exact f5⟩
  · rcases (by omega : j = 0 ∨ j = 1 ∨ j = 2) with rfl | rfl | rfl
    · rfl
    · show decide (trV (evalE (Ex.node 24 [e]) row) = 1) = _; rw [eval_not]; rfl
    · show decide (trV (evalE (Ex.node 21 [e]) row) = 1) = _; rw [eval_null]; rfl
  · rcases (by omega : j = 0 ∨ j = 1 ∨ j = 2) with rfl | rfl | rfl
    · exact hf
    · exact node_fine (by decide) (by decide)
    · exact node_fine (by decide) (by decide)
  · rcases (by omega : j = 0 ∨ j = 1 ∨ j = 2) with rfl | rfl | rfl
    · exact k0
    · refine g1 _ ?_ k0
      rw [Below.heap_alloc _ _ _ (by simp; omega), Below.heap_alloc _ _ _ (by simp)]
      exact heap_alloc_new W0 _
    · refine g2 _ ?_ k0
      rw [Below.heap_alloc _ _ _ (by simp)]
      exact heap_second W0 _ _
set_option maxHeartbeats 4000000 in
set_option maxRecDepth 20000 in
theorem expressionDecides_walk (B : Nat) (hE : ExprOf 5 B) (hB : B ≤ 10000) (a : Option Addr) (len cap : Nat) (w : World) (hn : NumsAt w a len) (ho : OpsTab w) :
    Calls Tryd.prog 6 #[.slice a len cap] w fun r w' => r = .returned (.bool true) ∧ Below w.heap.size w w' := by
  have H := Lib.hid (tape_new (cap := cap) hn)
  have HO := Lib.hid ho
  have HE := Lib.hid hE
  clear hn ho hE
  go_enter Tryd.func6, Tryd.ntmps6
  go_wp2_with (first | (go_at_call 8; ((with_reducible refine (Types_use w.heap.size 0 4 4 _ H.out (by omega) (by omega) (by omega) rfl).mono ?_); rintro e0 w1 hq; obtain ⟨ty, a1, c1, rfl, hl1, hl2, hty, hat, z1, rfl⟩ := hq; have HTY := Lib.hid hty; have HAT := Lib.hid hat; clear hty hat; have z1s := z1.size; simp at z1s)) | (go_at_call 10; ((with_reducible refine (HE.out.use w.heap.size (0 + 1 + 4) ty 2 a1 _ c1 _ 5 rfl z1.at_ HAT.out ty2 (by omega) (by omega)).mono ?_); rintro e0 w1 hq; obtain ⟨e, a2, n2, c2, rfl, hmade, hfine, hkids, z2, rfl⟩ := hq; have HM := Lib.hid hmade; have HF := Lib.hid hfine; have HK := Lib.hid hkids; clear hmade hfine hkids; have z2s := z2.size)) | (go_at_call 11; ((with_reducible refine (Row_calls w.heap.size _ ty a1 _ c1 _ (z2.at_.later ((Below.refl _ _).alloc (Nat.le_refl _) _)) ((HAT.out.tp z2.tp).tp ((Tp.refl _ _).alloc _)) HTY.out ?_ (by omega)).mono ?_); (· omega); rintro e0 w1 hq; obtain ⟨row, a3, c3, rfl, hr1, hr2, hrow, z3, rfl⟩ := hq; have HR1 := Lib.hid hr1; have HR2 := Lib.hid hr2; have HROW := Lib.hid hrow; clear hr1 hr2 hrow; have z3s := z3.size; simp at z3s; have q1 : z2.val.heap.size ≠ w.heap.size := (by omega); have q2 : z2.val.heap.size < z3.val.heap.size := (by omega))))
  have hT : w.heap.size < z3.val.heap.size := by have := z3.at_.lt; omega
  have hk3 : Kids z3.val (fun _ => True) a2 n2 c2 e.kids := (Kids.up (lo := w.heap.size + 1) ((HK.out).low (by omega)) (Up.lat z3 ((Up.refl _ _).alloc _) (by omega))).any
  obtain ⟨W6, hW, hbel, hsz, hrec⟩ := three_at (W0 := z3.val) HF.out hk3 row
  simp only [flatR, threeR, Rec.cells, nd_op, nd_ty, nd_num, nd_text, nd_col, List.append_nil, List.cons_append, List.nil_append] at hW
  have hg : 0 < w.heap.size := HO.out.1
  have hA3 : Tp w.heap.size w z3.val := z3.on ((z2.on (z1.on ((Tp.refl _ _).alloc _))).alloc _)
  have hops : OpsTab W6 := (HO.out.tp hA3 (by omega)).later hbel
  have hrow6 : RowIs W6 a3 ty.length c3 row := HROW.out.row.later hbel
  have hbel6 : Below w.heap.size w W6 := (hA3.toBelow (Nat.le_refl _) (Nat.le_refl _)).trans (hbel.mono (by omega))
  have hv : okV 2 (evalE e row) := HM.out.value ⟨by rw [HR1.out], HR2.out⟩
  have HV := Lib.hid (threeB_one hv)
  have HREC := Lib.hid hrec
  have HOP := Lib.hid hops
  have HRW := Lib.hid hrow6
  have HBL := Lib.hid hbel6
  have HSZ := Lib.hid hsz
  clear hrec hops hrow6 hbel6 hv hk3 hA3 hbel
  have HLEN : Hid ((threeB (evalE e row)).length = 3) := Lib.hid rfl
  generalize threeB (evalE e row) = bs at HV HREC HLEN
  rw [← hW]
  clear hW
  generalize z3.val.heap.size + 1 + 1 = b3 at *
  go_loopw [7, 9] (fun n i wr => ∃ j : Nat, j ≤ 3 ∧ i = .int .i64 j ∧ n = .int .i64 (cntB bs j) ∧ Cls W6 wr) (fun _ i _ => 3 - (intOf i).toNat)
  case atStart => exact ⟨0, by omega, rfl, by cases bs <;> rfl, Cls.of (Below.refl _ _)⟩
  case round =>
    obtain ⟨j, hj, rfl, rfl, x, rfl⟩ := hrel
    have xs := x.size
    obtain ⟨hcb0, hcb1⟩ := cntB_bd bs j
    by_cases hlt : j < 3
    · obtain ⟨r, _, hb, hfine, hkids, q0, q1, q2, q3, q4, q5⟩ := HREC.out j hlt
      have hb3 := HSZ.out
      have C1 : Hid (∀ W, Below W6.heap.size W6 W → Calls Tryd.prog 14 #[.agg #[.int .i64 r.e.op, .int .i64 r.e.ty, .int .i64 r.e.num, .string r.e.text, .int .i64 r.e.col, .slice r.a r.len r.cap], .slice a3 ty.length c3] W fun e w' => e = .returned (.agg #[.int .i64 (evalE r.e row).k, .int .i64 (evalE r.e row).n, .string (evalE r.e row).s]) ∧ Cls W w') :=
        Lib.hid (fun W hW => Eval_calls r.e r.a r.len r.cap _ a3 ty.length c3 row W (hkids.later hW) hfine (HRW.out.later hW) (HOP.out.later hW))
      have HBJ := Lib.hid hb
      clear hb hfine hkids
      generalize evalE r.e row = v at C1 HBJ
      generalize r.e = re at *
      generalize r.a = ra at *
      generalize r.len = rlen at *
      generalize r.cap = rcap at *
      cases ht : ((truT v.k v.n : Int) == 1)
      all_goals
        have HT := Lib.hid ht
        go_wp2_with (first | (go_at_call 14; ((with_reducible refine (C1.out _ ?_).mono ?_); (· (repeat first | with_reducible exact Below.refl _ _ | with_reducible refine Below.setCell ?_ (by first | omega | (simp; done) | (simp; omega)) _ | with_reducible refine Below.alloc ?_ (by first | omega | (simp; done) | (simp; omega)) _ | with_reducible refine Below.drew ?_ | with_reducible refine Ext.on _ ?_ (by first | omega | (simp; done) | (simp; omega)))); rintro e1 _ ⟨rfl, y, rfl⟩; have ys := y.size)) | (go_at_call 23; ((with_reducible refine (Cls.call (rTruth_calls _ _ _ _)).mono ?_); rintro e1 _ ⟨rfl, t, rfl⟩; have ts := t.size)))
        go_roundw
        case rel =>
          refine ⟨j + 1, by omega, by go_num, ?_, ?_⟩
          · have h1 := cntB_go bs j (by have := HLEN.out; omega)
            have h2 : bs.getD j false = ((truT v.k v.n : Int) == 1) := by rw [← HBJ.out]; rfl
            rw [h1, h2, HT.out]
            first | rfl | (simp [b2i]; done)
          · refine Cls.of ?_
            repeat first | with_reducible exact Below.refl _ _ | with_reducible refine Below.setCell ?_ (by first | omega | (simp; done) | (simp; omega)) _ | with_reducible refine Below.alloc ?_ (by first | omega | (simp; done) | (simp; omega)) _ | with_reducible refine Below.drew ?_ | with_reducible refine Ext.on _ ?_ (by first | omega | (simp; done) | (simp; omega))
        case measure => first | (simp [intOf]; done) | (simp [intOf]; omega)
    · have hj3 : j = 3 := by omega
      subst hj3
      have hc1 : cntB bs 3 = 1 := HV.out
      go_wp2_with fail
      go_ret
      refine ⟨ret_bool (by first | rfl | simp [hc1]), ?_⟩
      exact HBL.out.trans (x.below.mono (HBL.out.size))
end Go.Proofs.YtbgbcjgpaoabdaaDoor
