/-
  The expressions that an operator itself uses, as the program gathers them: all of them.
-/
import Derived.Test.YtbnhmjecjeifdaaDoorQPSize2
set_option linter.unusedVariables false
namespace Go.Proofs.YtbnhmjecjeifdaaDoor
open Go Go.RowKit Go.Deep
def ExprsOf (p : Qr) (ks : Sl) (w : World) : Prop := Calls Tryd.prog 100 #[.agg #[.int .i64 p.op, .string p.table, .int .i64 p.kind, .bool p.all, .int .i64 p.cond.op, .int .i64 p.cond.ty, .int .i64 p.cond.num, .string p.cond.text, .int .i64 p.cond.col, .slice p.ck.a p.ck.len p.ck.cap, .slice p.es.a p.es.len p.es.cap, .slice p.gs.a p.gs.len p.gs.cap, .slice p.ts.a p.ts.len p.ts.cap, .slice p.rs.a p.rs.len p.rs.cap, .slice ks.a ks.len ks.cap]] w fun r w' => ∃ (l : List Ex) (a : Option Addr) (n c : Nat), r = .returned (.slice a n c) ∧ Kids w' (fun _ => True) a n c l ∧ nodL l = condN p + exprN p + aggN p ∧ Cls w w'
theorem has_cases (op : Int) : hasO op = 0 ∨ hasO op = 1 ∨ hasO op = 192 ∨ hasO op = 8 ∨ hasO op = 16 ∨ hasO op = 10 ∨ hasO op = 4 ∨ hasO op = 48 := by
  unfold hasO
  split
  · rename_i h
    obtain ⟨n, rfl⟩ : ∃ n : Nat, op = n := ⟨op.toNat, by omega⟩
    rcases (by omega : n = 1 ∨ n = 2 ∨ n = 3 ∨ n = 4 ∨ n = 5 ∨ n = 6 ∨ n = 7 ∨ n = 8 ∨ n = 9 ∨ n = 10) with rfl | rfl | rfl | rfl | rfl | rfl | rfl | rfl | rfl | rfl <;> decide
  · exact .inl rfl
theorem has_no {op : Int} (h3 : op ≠ 3) (h4 : op ≠ 4) (h5 : op ≠ 5) (h10 : op ≠ 10) : usesB (hasO op) 8 = false ∧ usesB (hasO op) 16 = false ∧ usesB (hasO op) 32 = false := by
  unfold hasO
  split
  · rename_i h
    obtain ⟨n, rfl⟩ : ∃ n : Nat, op = n := ⟨op.toNat, by omega⟩
    rcases (by omega : n = 1 ∨ n = 2 ∨ n = 6 ∨ n = 7 ∨ n = 8 ∨ n = 9) with rfl | rfl | rfl | rfl | rfl | rfl <;> decide
  · decide
set_option maxHeartbeats 8000000 in
set_option maxRecDepth 20000 in
theorem exprs_no (p : Qr) (ks : Sl) (w : World) (hp : QrAt w p) (ht : OpT w) (hgl : p.gs.len ≤ 2 ^ 22) (hel : p.es.len ≤ 2 ^ 22) (hop : ¬ p.op = 3 ∧ ¬ p.op = 4 ∧ ¬ p.op = 5 ∧ ¬ p.op = 10) : ExprsOf p ks w := by
  obtain ⟨i0, hi, hz0, hz1, hz2⟩ := info_parts infoEx
  have HSUM : Hid (condN p + exprN p + aggN p = 0) := Lib.hid (by obtain ⟨h3, h4, h5, h10⟩ := hop; simp [condN, exprN, aggN, h3, h4, h5, h10])
  have HU : Hid (usesB (hasO p.op) 8 = false ∧ usesB (hasO p.op) 16 = false ∧ usesB (hasO p.op) 32 = false) := Lib.hid (by exact has_no hop.1 hop.2.1 hop.2.2.1 hop.2.2.2)
  have CF : Hid (∀ W, Below w.heap.size w W → Calls Tryd.prog 103 #[.int .i64 p.op] W fun r w' => ∃ s : ByteArray, r = .returned (.tuple #[.agg #[.string s, .int .i64 (hasO p.op), .int .i64 (kidsO p.op)], .bool (okO p.op)]) ∧ Cls W w') := Lib.hid (fun W hW => findO_calls p.op W (ht.later hW))
  have U8 : Hid (∀ (s : ByteArray) (k : Int) (W : World), Calls Tryd.prog 147 #[.agg #[.string s, .int .i64 (hasO p.op), .int .i64 k], .int .i64 8] W fun r w' => r = .returned (.bool false) ∧ Cls W w') := Lib.hid (fun s k W => by have h := uses_calls s (hasO p.op) k 8 W (has_cases _) (by omega); rw [HU.out.1] at h; exact h)
  have U16 : Hid (∀ (s : ByteArray) (k : Int) (W : World), Calls Tryd.prog 147 #[.agg #[.string s, .int .i64 (hasO p.op), .int .i64 k], .int .i64 16] W fun r w' => r = .returned (.bool false) ∧ Cls W w') := Lib.hid (fun s k W => by have h := uses_calls s (hasO p.op) k 16 W (has_cases _) (by omega); rw [HU.out.2.1] at h; exact h)
  have U32 : Hid (∀ (s : ByteArray) (k : Int) (W : World), Calls Tryd.prog 147 #[.agg #[.string s, .int .i64 (hasO p.op), .int .i64 k], .int .i64 32] W fun r w' => r = .returned (.bool false) ∧ Cls W w') := Lib.hid (fun s k W => by have h := uses_calls s (hasO p.op) k 32 W (has_cases _) (by omega); rw [HU.out.2.2] at h; exact h)
  have CA : Hid (∀ W, Below w.heap.size w W → Calls Tryd.prog 148 #[.slice p.gs.a p.gs.len p.gs.cap] W fun r w' => ∃ (v : Value) (rs : List Rec), r = .returned v ∧ RowE w.heap.size W w' v rs ∧ rs.map Rec.e = argsL p.agg p.gs.len ∧ Cls W w') := Lib.hid (fun W hW => arguments_calls w.heap.size p.gs p.agg W (hp.aggs.later hW) (fun i hi => ⟨(hp.agg i hi).1, (hp.agg i hi).2.carry hW.size fun b hb _ => ⟨hb, hW.block b hb⟩⟩) hgl)
  have HCK : Hid (p.cond.fine ∧ Kids w (fun b => b < w.heap.size) p.ck.a p.ck.len p.ck.cap p.cond.kids) := Lib.hid ⟨hp.condf, hp.condk.carry (Nat.le_refl _) fun b hb _ => ⟨hb, rfl⟩⟩
  have HEX : Hid (Kids w (fun _ => True) p.es.a p.es.len p.es.cap p.exprs) := Lib.hid hp.exprs
  have hem : p.es.cap ≤ maxLen := hp.exprs.max
  have hgm : p.gs.cap ≤ maxLen := hp.aggs.2.1
  unfold maxLen at hem hgm
  have HAL := Lib.hid (argsL_len p.agg p.gs.len)
  unfold ExprsOf
  clear hp ht HU hop
  generalize hasO p.op = ha at *
  generalize kidsO p.op = kk at *
  generalize okO p.op = ok at *
  generalize argsL p.agg p.gs.len = al at *
  generalize condN p + exprN p + aggN p = tot at *
  obtain ⟨op, table, kind, all, cond, ck, ⟨ea, en, ec⟩, exprs, ⟨ga, gn, gc⟩, agg, ⟨ta, tn, tc⟩, typ, ⟨ra, rn, rc⟩, row, val⟩ := p
  obtain ⟨ka, kn, kc⟩ := ks
  simp only at *
  go_enter Tryd.func100, Tryd.ntmps100
  go_wp2_with (first | (go_at_call 103; ((with_reducible refine (CF.out _ ?_).mono ?_); (· (repeat first | with_reducible exact Below.refl _ _ | with_reducible refine Below.setCell ?_ (by first | omega | (simp; done) | (simp; omega)) _ | with_reducible refine Below.alloc ?_ (by first | omega | (simp; done) | (simp; omega)) _ | with_reducible refine Below.drew ?_ | with_reducible refine Ext.on _ ?_ (by first | omega | (simp; done) | (simp; omega)))); rintro r w1 hq; obtain ⟨s, rfl, y1, rfl⟩ := hq; have y1s := y1.size; simp at y1s; obtain ⟨a0, _, _, _, _⟩ := y1.lts (b := w.heap.size) (by simp))) | (go_at_call 147; ((with_reducible refine (U8.out s kk _).mono ?_); rintro r _ ⟨rfl, y2, rfl⟩; have y2s := y2.size; simp at y2s; obtain ⟨b0, _, _, _, _⟩ := y2.lts (b := w.heap.size) (by simp; omega); obtain ⟨b1, _, _, _, _⟩ := y2.lts (b := y1.val.heap.size) (by simp))) | (go_at_call 147; ((with_reducible refine (U16.out s kk _).mono ?_); rintro r _ ⟨rfl, y3, rfl⟩; have y3s := y3.size; obtain ⟨c0, _, _, _, _⟩ := y3.lts (b := w.heap.size) b0; obtain ⟨c1, _, _, _, _⟩ := y3.lts (b := y1.val.heap.size) b1)) | (go_at_call 147; ((with_reducible refine (U32.out s kk _).mono ?_); rintro r _ ⟨rfl, y4, rfl⟩; have y4s := y4.size; obtain ⟨d0, _, _, _, _⟩ := y4.lts (b := w.heap.size) c0; obtain ⟨d1, _, _, _, _⟩ := y4.lts (b := y1.val.heap.size) c1)))
  go_ret
  refine ⟨[], none, 0, 0, rfl, .none, HSUM.out.symm, Cls.of ?_⟩
  repeat first | with_reducible exact Below.refl _ _ | with_reducible refine Below.setCell ?_ (by first | omega | (simp; done) | (simp; omega)) _ | with_reducible refine Below.alloc ?_ (by first | omega | (simp; done) | (simp; omega)) _ | with_reducible refine Below.drew ?_ | with_reducible refine Ext.on _ ?_ (by first | omega | (simp; done) | (simp; omega))
set_option maxHeartbeats 8000000 in
set_option maxRecDepth 20000 in
theorem exprs_cond (p : Qr) (ks : Sl) (w : World) (hp : QrAt w p) (ht : OpT w) (hgl : p.gs.len ≤ 2 ^ 22) (hel : p.es.len ≤ 2 ^ 22) (hop : p.op = 3 ∨ p.op = 5) : ExprsOf p ks w := by
  obtain ⟨i0, hi, hz0, hz1, hz2⟩ := info_parts infoEx
  have HSUM : Hid (condN p + exprN p + aggN p = nodE p.cond) := Lib.hid (by have h4 : ¬ (p.op = 4 ∨ p.op = 10) := (by omega); have h10 : ¬ p.op = 10 := (by omega); unfold condN exprN aggN; rw [if_pos hop, if_neg h4, if_neg h10]; rfl)
  have HU : Hid (usesB (hasO p.op) 8 = true ∧ usesB (hasO p.op) 16 = false ∧ usesB (hasO p.op) 32 = false) := Lib.hid (by rcases hop with h | h <;> rw [h] <;> decide)
  have CF : Hid (∀ W, Below w.heap.size w W → Calls Tryd.prog 103 #[.int .i64 p.op] W fun r w' => ∃ s : ByteArray, r = .returned (.tuple #[.agg #[.string s, .int .i64 (hasO p.op), .int .i64 (kidsO p.op)], .bool (okO p.op)]) ∧ Cls W w') := Lib.hid (fun W hW => findO_calls p.op W (ht.later hW))
  have U8 : Hid (∀ (s : ByteArray) (k : Int) (W : World), Calls Tryd.prog 147 #[.agg #[.string s, .int .i64 (hasO p.op), .int .i64 k], .int .i64 8] W fun r w' => r = .returned (.bool true) ∧ Cls W w') := Lib.hid (fun s k W => by have h := uses_calls s (hasO p.op) k 8 W (has_cases _) (by omega); rw [HU.out.1] at h; exact h)
  have U16 : Hid (∀ (s : ByteArray) (k : Int) (W : World), Calls Tryd.prog 147 #[.agg #[.string s, .int .i64 (hasO p.op), .int .i64 k], .int .i64 16] W fun r w' => r = .returned (.bool false) ∧ Cls W w') := Lib.hid (fun s k W => by have h := uses_calls s (hasO p.op) k 16 W (has_cases _) (by omega); rw [HU.out.2.1] at h; exact h)
  have U32 : Hid (∀ (s : ByteArray) (k : Int) (W : World), Calls Tryd.prog 147 #[.agg #[.string s, .int .i64 (hasO p.op), .int .i64 k], .int .i64 32] W fun r w' => r = .returned (.bool false) ∧ Cls W w') := Lib.hid (fun s k W => by have h := uses_calls s (hasO p.op) k 32 W (has_cases _) (by omega); rw [HU.out.2.2] at h; exact h)
  have CA : Hid (∀ W, Below w.heap.size w W → Calls Tryd.prog 148 #[.slice p.gs.a p.gs.len p.gs.cap] W fun r w' => ∃ (v : Value) (rs : List Rec), r = .returned v ∧ RowE w.heap.size W w' v rs ∧ rs.map Rec.e = argsL p.agg p.gs.len ∧ Cls W w') := Lib.hid (fun W hW => arguments_calls w.heap.size p.gs p.agg W (hp.aggs.later hW) (fun i hi => ⟨(hp.agg i hi).1, (hp.agg i hi).2.carry hW.size fun b hb _ => ⟨hb, hW.block b hb⟩⟩) hgl)
  have HCK : Hid (p.cond.fine ∧ Kids w (fun b => b < w.heap.size) p.ck.a p.ck.len p.ck.cap p.cond.kids) := Lib.hid ⟨hp.condf, hp.condk.carry (Nat.le_refl _) fun b hb _ => ⟨hb, rfl⟩⟩
  have HEX : Hid (Kids w (fun _ => True) p.es.a p.es.len p.es.cap p.exprs) := Lib.hid hp.exprs
  have hem : p.es.cap ≤ maxLen := hp.exprs.max
  have hgm : p.gs.cap ≤ maxLen := hp.aggs.2.1
  unfold maxLen at hem hgm
  have HAL := Lib.hid (argsL_len p.agg p.gs.len)
  unfold ExprsOf
  clear hp ht HU hop
  generalize hasO p.op = ha at *
  generalize kidsO p.op = kk at *
  generalize okO p.op = ok at *
  generalize argsL p.agg p.gs.len = al at *
  generalize condN p + exprN p + aggN p = tot at *
  obtain ⟨op, table, kind, all, cond, ck, ⟨ea, en, ec⟩, exprs, ⟨ga, gn, gc⟩, agg, ⟨ta, tn, tc⟩, typ, ⟨ra, rn, rc⟩, row, val⟩ := p
  obtain ⟨ka, kn, kc⟩ := ks
  simp only at *
  go_enter Tryd.func100, Tryd.ntmps100
  go_wp2_with (first | (go_at_call 103; ((with_reducible refine (CF.out _ ?_).mono ?_); (· (repeat first | with_reducible exact Below.refl _ _ | with_reducible refine Below.setCell ?_ (by first | omega | (simp; done) | (simp; omega)) _ | with_reducible refine Below.alloc ?_ (by first | omega | (simp; done) | (simp; omega)) _ | with_reducible refine Below.drew ?_ | with_reducible refine Ext.on _ ?_ (by first | omega | (simp; done) | (simp; omega)))); rintro r w1 hq; obtain ⟨s, rfl, y1, rfl⟩ := hq; have y1s := y1.size; simp at y1s; obtain ⟨a0, _, _, _, _⟩ := y1.lts (b := w.heap.size) (by simp))) | (go_at_call 147; ((with_reducible refine (U8.out s kk _).mono ?_); rintro r _ ⟨rfl, y2, rfl⟩; have y2s := y2.size; simp at y2s; obtain ⟨b0, _, _, _, _⟩ := y2.lts (b := w.heap.size) (by simp; omega); obtain ⟨b1, _, _, _, _⟩ := y2.lts (b := y1.val.heap.size) (by simp))) | (go_at_call 147; ((with_reducible refine (U16.out s kk _).mono ?_); rintro r _ ⟨rfl, y3, rfl⟩; have y3s := y3.size; obtain ⟨c0, _, _, _, _⟩ := y3.lts (b := w.heap.size) b00; obtain ⟨c1, _, _, _, _⟩ := y3.lts (b := y1.val.heap.size) b11)) | (go_at_call 147; ((with_reducible refine (U32.out s kk _).mono ?_); rintro r _ ⟨rfl, y4, rfl⟩; have y4s := y4.size; obtain ⟨d0, _, _, _, _⟩ := y4.lts (b := w.heap.size) c0; obtain ⟨d1, _, _, _, _⟩ := y4.lts (b := y1.val.heap.size) c1)) | (at_builtin; refine wpList_append_own_at _ rfl _ _ 22 rfl w.heap.size 24 i0 (.agg #[.int .i64 0, .int .i64 0, .int .i64 0, .string ⟨#[]⟩, .int .i64 0, .slice none 0 0]) 6 72 Tryd.underlying22 hi hz0 hz1 hz2 rfl (by decide) (.slice none 0 0) 0 [] rfl (World.ownsRow_nil _ _ _ 6) ⟨y2.val.heap.size, 0, none⟩ 1 1 (Rec.cells ⟨cond, ck.a, ck.len, ck.cap⟩) rfl rfl (cells_new _ _ _) (Rec.one _) (by unfold maxLen; omega) (by omega) (by simp; omega) ?_; intro v3 w3 hown3 hg3 _ _; have hB3 : Below (y2.val.alloc (.cells (Rec.cells ⟨cond, ck.a, ck.len, ck.cap⟩).toArray 24)).heap.size (y2.val.alloc (.cells (Rec.cells ⟨cond, ck.a, ck.len, ck.cap⟩).toArray 24)) w3 := Below.grown (w := y2.val.alloc _) (Below.refl _ _) hg3 (Nat.le_refl _) (fun k hk => absurd hk (by simp [Value.ownBlock])); obtain ⟨tt, htt⟩ : ∃ t : Ext (y2.val.alloc (.cells (Rec.cells ⟨cond, ck.a, ck.len, ck.cap⟩).toArray 24)), t.val = w3 := ⟨⟨w3, hB3⟩, rfl⟩; subst htt; have HO3 : Hid (RowE w.heap.size w tt.val v3 [⟨cond, ck.a, ck.len, ck.cap⟩]) := Lib.hid (RowE.push (RowE.nil w.heap.size w tt.val) (fun r hr => by simp at hr; subst hr; exact HCK.out) (by rw [flatR_one1]; exact hown3)); clear hown3 hg3 hB3; have tts := tt.size; simp at tts; obtain ⟨b00, _, _, _, _⟩ := tt.lts (b := w.heap.size) (by simp; omega); obtain ⟨b11, _, _, _, _⟩ := tt.lts (b := y1.val.heap.size) (by simp; omega)))
  have hB4 : Below w.heap.size w y4.val := by repeat first | with_reducible exact Below.refl _ _ | with_reducible refine Below.setCell ?_ (by first | omega | (simp; done) | (simp; omega)) _ | with_reducible refine Below.alloc ?_ (by first | omega | (simp; done) | (simp; omega)) _ | with_reducible refine Below.drew ?_ | with_reducible refine Ext.on _ ?_ (by first | omega | (simp; done) | (simp; omega))
  obtain ⟨a9, c9, hv9, hk9⟩ := RowE.kids (wr := y4.val) ⟨own_later HO3.out.own ((Below.refl _ _).trans (y3.below.trans (y4.below.mono y3.size))), HO3.out.kid⟩ hB4
  subst hv9
  have HK9 := Lib.hid hk9
  clear hk9
  go_ret
  exact ⟨_, a9, _, c9, rfl, HK9.out, by rw [HSUM.out]; simp [nodL], Cls.of hB4⟩
set_option maxHeartbeats 8000000 in
set_option maxRecDepth 20000 in
theorem exprs_list (p : Qr) (ks : Sl) (w : World) (hp : QrAt w p) (ht : OpT w) (hgl : p.gs.len ≤ 2 ^ 22) (hel : p.es.len ≤ 2 ^ 22) (hop : p.op = 4) : ExprsOf p ks w := by
  obtain ⟨i0, hi, hz0, hz1, hz2⟩ := info_parts infoEx
  have HSUM : Hid (condN p + exprN p + aggN p = sumN (exF p) p.es.len) := Lib.hid (by have h3 : ¬ (p.op = 3 ∨ p.op = 5) := (by omega); have h4 : p.op = 4 ∨ p.op = 10 := .inl hop; have h10 : ¬ p.op = 10 := (by omega); unfold condN exprN aggN; rw [if_neg h3, if_pos h4, if_neg h10]; omega)
  have HU : Hid (usesB (hasO p.op) 8 = false ∧ usesB (hasO p.op) 16 = true ∧ usesB (hasO p.op) 32 = false) := Lib.hid (by rw [hop]; decide)
  have CF : Hid (∀ W, Below w.heap.size w W → Calls Tryd.prog 103 #[.int .i64 p.op] W fun r w' => ∃ s : ByteArray, r = .returned (.tuple #[.agg #[.string s, .int .i64 (hasO p.op), .int .i64 (kidsO p.op)], .bool (okO p.op)]) ∧ Cls W w') := Lib.hid (fun W hW => findO_calls p.op W (ht.later hW))
  have U8 : Hid (∀ (s : ByteArray) (k : Int) (W : World), Calls Tryd.prog 147 #[.agg #[.string s, .int .i64 (hasO p.op), .int .i64 k], .int .i64 8] W fun r w' => r = .returned (.bool false) ∧ Cls W w') := Lib.hid (fun s k W => by have h := uses_calls s (hasO p.op) k 8 W (has_cases _) (by omega); rw [HU.out.1] at h; exact h)
  have U16 : Hid (∀ (s : ByteArray) (k : Int) (W : World), Calls Tryd.prog 147 #[.agg #[.string s, .int .i64 (hasO p.op), .int .i64 k], .int .i64 16] W fun r w' => r = .returned (.bool true) ∧ Cls W w') := Lib.hid (fun s k W => by have h := uses_calls s (hasO p.op) k 16 W (has_cases _) (by omega); rw [HU.out.2.1] at h; exact h)
  have U32 : Hid (∀ (s : ByteArray) (k : Int) (W : World), Calls Tryd.prog 147 #[.agg #[.string s, .int .i64 (hasO p.op), .int .i64 k], .int .i64 32] W fun r w' => r = .returned (.bool false) ∧ Cls W w') := Lib.hid (fun s k W => by have h := uses_calls s (hasO p.op) k 32 W (has_cases _) (by omega); rw [HU.out.2.2] at h; exact h)
  have CA : Hid (∀ W, Below w.heap.size w W → Calls Tryd.prog 148 #[.slice p.gs.a p.gs.len p.gs.cap] W fun r w' => ∃ (v : Value) (rs : List Rec), r = .returned v ∧ RowE w.heap.size W w' v rs ∧ rs.map Rec.e = argsL p.agg p.gs.len ∧ Cls W w') := Lib.hid (fun W hW => arguments_calls w.heap.size p.gs p.agg W (hp.aggs.later hW) (fun i hi => ⟨(hp.agg i hi).1, (hp.agg i hi).2.carry hW.size fun b hb _ => ⟨hb, hW.block b hb⟩⟩) hgl)
  have HCK : Hid (p.cond.fine ∧ Kids w (fun b => b < w.heap.size) p.ck.a p.ck.len p.ck.cap p.cond.kids) := Lib.hid ⟨hp.condf, hp.condk.carry (Nat.le_refl _) fun b hb _ => ⟨hb, rfl⟩⟩
  have HEX : Hid (Kids w (fun _ => True) p.es.a p.es.len p.es.cap p.exprs) := Lib.hid hp.exprs
  have hem : p.es.cap ≤ maxLen := hp.exprs.max
  have hgm : p.gs.cap ≤ maxLen := hp.aggs.2.1
  unfold maxLen at hem hgm
  have HAL := Lib.hid (argsL_len p.agg p.gs.len)
  have HX : Hid (nodL p.exprs = sumN (exF p) p.es.len) := Lib.hid (by rw [← hp.exprs.len_eq]; exact nodL_sum p.exprs)
  rw [← HX.out] at HSUM
  unfold ExprsOf
  clear hp ht HU hop
  generalize hasO p.op = ha at *
  generalize kidsO p.op = kk at *
  generalize okO p.op = ok at *
  generalize argsL p.agg p.gs.len = al at *
  generalize condN p + exprN p + aggN p = tot at *
  obtain ⟨op, table, kind, all, cond, ck, ⟨ea, en, ec⟩, exprs, ⟨ga, gn, gc⟩, agg, ⟨ta, tn, tc⟩, typ, ⟨ra, rn, rc⟩, row, val⟩ := p
  obtain ⟨ka, kn, kc⟩ := ks
  simp only at *
  clear HX
  cases ea with
  | none =>
    have hb := HEX.out.bare rfl
    obtain ⟨rfl, rfl⟩ := hb
    have HNIL : Hid (exprs = []) := Lib.hid (List.eq_nil_of_length_eq_zero HEX.out.len_eq)
    have tok1 : True := trivial
    go_enter Tryd.func100, Tryd.ntmps100
    go_wp2_with (first | (go_at_call 103; ((with_reducible refine (CF.out _ ?_).mono ?_); (· (repeat first | with_reducible exact Below.refl _ _ | with_reducible refine Below.setCell ?_ (by first | omega | (simp; done) | (simp; omega)) _ | with_reducible refine Below.alloc ?_ (by first | omega | (simp; done) | (simp; omega)) _ | with_reducible refine Below.drew ?_ | with_reducible refine Ext.on _ ?_ (by first | omega | (simp; done) | (simp; omega)))); rintro r w1 hq; obtain ⟨s, rfl, y1, rfl⟩ := hq; have y1s := y1.size; simp at y1s; obtain ⟨a0, _, _, _, _⟩ := y1.lts (b := w.heap.size) (by simp))) | (go_at_call 147; ((with_reducible refine (U8.out s kk _).mono ?_); rintro r _ ⟨rfl, y2, rfl⟩; have y2s := y2.size; simp at y2s; obtain ⟨b0, _, _, _, _⟩ := y2.lts (b := w.heap.size) (by simp; omega); obtain ⟨b1, _, _, _, _⟩ := y2.lts (b := y1.val.heap.size) (by simp))) | (go_at_call 147; ((with_reducible refine (U16.out s kk _).mono ?_); rintro r _ ⟨rfl, y3, rfl⟩; have y3s := y3.size; obtain ⟨c0, _, _, _, _⟩ := y3.lts (b := w.heap.size) b0; obtain ⟨c1, _, _, _, _⟩ := y3.lts (b := y1.val.heap.size) b1)) | (go_at_call 147; ((with_reducible refine (U32.out s kk _).mono ?_); rintro r _ ⟨rfl, y4, rfl⟩; have y4s := y4.size; obtain ⟨d0, _, _, _, _⟩ := y4.lts (b := w.heap.size) c0; obtain ⟨d1, _, _, _, _⟩ := y4.lts (b := y1.val.heap.size) c1)) | (at_builtin; have _t := tok1; refine wpList_append_own_none rfl _ _ 22 rfl w.heap.size 24 i0 6 Tryd.underlying22 hi (.slice none 0 0) 0 [] rfl (World.ownsRow_nil _ _ _ 6) rfl ?_; clear tok1 _t))
    go_ret
    refine ⟨[], none, 0, 0, rfl, .none, by rw [HSUM.out, HNIL.out], Cls.of ?_⟩
    repeat first | with_reducible exact Below.refl _ _ | with_reducible refine Below.setCell ?_ (by first | omega | (simp; done) | (simp; omega)) _ | with_reducible refine Below.alloc ?_ (by first | omega | (simp; done) | (simp; omega)) _ | with_reducible refine Below.drew ?_ | with_reducible refine Ext.on _ ?_ (by first | omega | (simp; done) | (simp; omega))
  | some ad0 =>
    obtain ⟨qs, hqm, hql, hqk, hqc⟩ := kids_recs HEX.out
    have HQM := Lib.hid hqm
    have HQL := Lib.hid hql
    have HQK := Lib.hid hqk
    have HQC := Lib.hid hqc
    clear hqm hql hqk hqc
    have tok1 : True := trivial
    go_enter Tryd.func100, Tryd.ntmps100
    go_wp2_with (first | (go_at_call 103; ((with_reducible refine (CF.out _ ?_).mono ?_); (· (repeat first | with_reducible exact Below.refl _ _ | with_reducible refine Below.setCell ?_ (by first | omega | (simp; done) | (simp; omega)) _ | with_reducible refine Below.alloc ?_ (by first | omega | (simp; done) | (simp; omega)) _ | with_reducible refine Below.drew ?_ | with_reducible refine Ext.on _ ?_ (by first | omega | (simp; done) | (simp; omega)))); rintro r w1 hq; obtain ⟨s, rfl, y1, rfl⟩ := hq; have y1s := y1.size; simp at y1s; obtain ⟨a0, _, _, _, _⟩ := y1.lts (b := w.heap.size) (by simp))) | (go_at_call 147; ((with_reducible refine (U8.out s kk _).mono ?_); rintro r _ ⟨rfl, y2, rfl⟩; have y2s := y2.size; simp at y2s; obtain ⟨b0, _, _, _, _⟩ := y2.lts (b := w.heap.size) (by simp; omega); obtain ⟨b1, _, _, _, _⟩ := y2.lts (b := y1.val.heap.size) (by simp))) | (go_at_call 147; ((with_reducible refine (U16.out s kk _).mono ?_); rintro r _ ⟨rfl, y3, rfl⟩; have y3s := y3.size; obtain ⟨c0, _, _, _, _⟩ := y3.lts (b := w.heap.size) b0; obtain ⟨c1, _, _, _, _⟩ := y3.lts (b := y1.val.heap.size) b1)) | (go_at_call 147; ((with_reducible refine (U32.out s kk _).mono ?_); rintro r _ ⟨rfl, y4, rfl⟩; have y4s := y4.size; obtain ⟨d0, _, _, _, _⟩ := y4.lts (b := w.heap.size) e00; obtain ⟨d1, _, _, _, _⟩ := y4.lts (b := y1.val.heap.size) e11)) | (at_builtin; have _t := tok1; refine wpList_append_own_at _ rfl _ _ 22 rfl w.heap.size 24 i0 (.agg #[.int .i64 0, .int .i64 0, .int .i64 0, .string ⟨#[]⟩, .int .i64 0, .slice none 0 0]) 6 72 Tryd.underlying22 hi hz0 hz1 hz2 rfl (by decide) (.slice none 0 0) 0 [] rfl (World.ownsRow_nil _ _ _ 6) ad0 en ec (flatR qs) rfl (by rw [flatR_length, HQL.out]) (HQC.out y3.val (by repeat first | with_reducible exact Below.refl _ _ | with_reducible refine Below.setCell ?_ (by first | omega | (simp; done) | (simp; omega)) _ | with_reducible refine Below.alloc ?_ (by first | omega | (simp; done) | (simp; omega)) _ | with_reducible refine Below.drew ?_ | with_reducible refine Ext.on _ ?_ (by first | omega | (simp; done) | (simp; omega)))) (flatR_one _) (by unfold maxLen; omega) (by omega) (by omega) ?_; intro v5 w5 hown5 hg5 _ _; have hB5 : Below y3.val.heap.size y3.val w5 := Below.grown (w := y3.val) (Below.refl _ _) hg5 (Nat.le_refl _) (fun k hk => absurd hk (by simp [Value.ownBlock])); obtain ⟨tt, htt⟩ : ∃ t : Ext y3.val, t.val = w5 := ⟨⟨w5, hB5⟩, rfl⟩; subst htt; have HO5 : Hid (RowE w.heap.size w tt.val v5 qs) := Lib.hid (by have h := RowE.push (qs := qs) (RowE.nil w.heap.size w tt.val) HQK.out (by rw [HQL.out]; exact hown5); exact h); clear hown5 hg5 hB5 tok1 _t; have tts := tt.size; obtain ⟨e00, _, _, _, _⟩ := tt.lts (b := w.heap.size) c0; obtain ⟨e11, _, _, _, _⟩ := tt.lts (b := y1.val.heap.size) c1))
    have hB4 : Below w.heap.size w y4.val := by repeat first | with_reducible exact Below.refl _ _ | with_reducible refine Below.setCell ?_ (by first | omega | (simp; done) | (simp; omega)) _ | with_reducible refine Below.alloc ?_ (by first | omega | (simp; done) | (simp; omega)) _ | with_reducible refine Below.drew ?_ | with_reducible refine Ext.on _ ?_ (by first | omega | (simp; done) | (simp; omega))
    obtain ⟨a9, c9, hv9, hk9⟩ := RowE.kids (wr := y4.val) ⟨own_later HO5.out.own y4.below, HO5.out.kid⟩ hB4
    subst hv9
    have HK9 := Lib.hid hk9
    clear hk9
    go_ret
    exact ⟨_, a9, _, c9, rfl, HK9.out, by rw [HQM.out, HSUM.out], Cls.of hB4⟩
set_option maxHeartbeats 8000000 in
set_option maxRecDepth 20000 in
theorem exprs_both (p : Qr) (ks : Sl) (w : World) (hp : QrAt w p) (ht : OpT w) (hgl : p.gs.len ≤ 2 ^ 22) (hel : p.es.len ≤ 2 ^ 22) (hop : p.op = 10) : ExprsOf p ks w := by
  obtain ⟨i0, hi, hz0, hz1, hz2⟩ := info_parts infoEx
  have HSUM : Hid (condN p + exprN p + aggN p = sumN (exF p) p.es.len + sumN (agF p) p.gs.len) := Lib.hid (by have h3 : ¬ (p.op = 3 ∨ p.op = 5) := (by omega); have h4 : p.op = 4 ∨ p.op = 10 := .inr hop; unfold condN exprN aggN; rw [if_neg h3, if_pos h4, if_pos hop]; omega)
  have HU : Hid (usesB (hasO p.op) 8 = false ∧ usesB (hasO p.op) 16 = true ∧ usesB (hasO p.op) 32 = true) := Lib.hid (by rw [hop]; decide)
  have CF : Hid (∀ W, Below w.heap.size w W → Calls Tryd.prog 103 #[.int .i64 p.op] W fun r w' => ∃ s : ByteArray, r = .returned (.tuple #[.agg #[.string s, .int .i64 (hasO p.op), .int .i64 (kidsO p.op)], .bool (okO p.op)]) ∧ Cls W w') := Lib.hid (fun W hW => findO_calls p.op W (ht.later hW))
  have U8 : Hid (∀ (s : ByteArray) (k : Int) (W : World), Calls Tryd.prog 147 #[.agg #[.string s, .int .i64 (hasO p.op), .int .i64 k], .int .i64 8] W fun r w' => r = .returned (.bool false) ∧ Cls W w') := Lib.hid (fun s k W => by have h := uses_calls s (hasO p.op) k 8 W (has_cases _) (by omega); rw [HU.out.1] at h; exact h)
  have U16 : Hid (∀ (s : ByteArray) (k : Int) (W : World), Calls Tryd.prog 147 #[.agg #[.string s, .int .i64 (hasO p.op), .int .i64 k], .int .i64 16] W fun r w' => r = .returned (.bool true) ∧ Cls W w') := Lib.hid (fun s k W => by have h := uses_calls s (hasO p.op) k 16 W (has_cases _) (by omega); rw [HU.out.2.1] at h; exact h)
  have U32 : Hid (∀ (s : ByteArray) (k : Int) (W : World), Calls Tryd.prog 147 #[.agg #[.string s, .int .i64 (hasO p.op), .int .i64 k], .int .i64 32] W fun r w' => r = .returned (.bool true) ∧ Cls W w') := Lib.hid (fun s k W => by have h := uses_calls s (hasO p.op) k 32 W (has_cases _) (by omega); rw [HU.out.2.2] at h; exact h)
  have CA : Hid (∀ W, Below w.heap.size w W → Calls Tryd.prog 148 #[.slice p.gs.a p.gs.len p.gs.cap] W fun r w' => ∃ (v : Value) (rs : List Rec), r = .returned v ∧ RowE w.heap.size W w' v rs ∧ rs.map Rec.e = argsL p.agg p.gs.len ∧ Cls W w') := Lib.hid (fun W hW => arguments_calls w.heap.size p.gs p.agg W (hp.aggs.later hW) (fun i hi => ⟨(hp.agg i hi).1, (hp.agg i hi).2.carry hW.size fun b hb _ => ⟨hb, hW.block b hb⟩⟩) hgl)
  have HCK : Hid (p.cond.fine ∧ Kids w (fun b => b < w.heap.size) p.ck.a p.ck.len p.ck.cap p.cond.kids) := Lib.hid ⟨hp.condf, hp.condk.carry (Nat.le_refl _) fun b hb _ => ⟨hb, rfl⟩⟩
  have HEX : Hid (Kids w (fun _ => True) p.es.a p.es.len p.es.cap p.exprs) := Lib.hid hp.exprs
  have hem : p.es.cap ≤ maxLen := hp.exprs.max
  have hgm : p.gs.cap ≤ maxLen := hp.aggs.2.1
  unfold maxLen at hem hgm
  have HAL := Lib.hid (argsL_len p.agg p.gs.len)
  have HX : Hid (nodL p.exprs = sumN (exF p) p.es.len) := Lib.hid (by rw [← hp.exprs.len_eq]; exact nodL_sum p.exprs)
  have HY : Hid (nodL (argsL p.agg p.gs.len) = sumN (agF p) p.gs.len) := Lib.hid (argsL_sum p p.gs.len)
  rw [← HX.out, ← HY.out] at HSUM
  unfold ExprsOf
  clear hp ht HU hop
  generalize hasO p.op = ha at *
  generalize kidsO p.op = kk at *
  generalize okO p.op = ok at *
  generalize argsL p.agg p.gs.len = al at *
  generalize condN p + exprN p + aggN p = tot at *
  obtain ⟨op, table, kind, all, cond, ck, ⟨ea, en, ec⟩, exprs, ⟨ga, gn, gc⟩, agg, ⟨ta, tn, tc⟩, typ, ⟨ra, rn, rc⟩, row, val⟩ := p
  obtain ⟨ka, kn, kc⟩ := ks
  simp only at *
  clear HX HY
  cases ea with
  | none =>
    have hb := HEX.out.bare rfl
    obtain ⟨rfl, rfl⟩ := hb
    have HNIL : Hid (exprs = []) := Lib.hid (List.eq_nil_of_length_eq_zero HEX.out.len_eq)
    have HQLN : Hid (0 ≤ 0) := Lib.hid (Nat.le_refl _)
    have tok1 : True := trivial
    have tok2 : True := trivial
    go_enter Tryd.func100, Tryd.ntmps100
    go_wp2_with (first | (go_at_call 103; ((with_reducible refine (CF.out _ ?_).mono ?_); (· (repeat first | with_reducible exact Below.refl _ _ | with_reducible refine Below.setCell ?_ (by first | omega | (simp; done) | (simp; omega)) _ | with_reducible refine Below.alloc ?_ (by first | omega | (simp; done) | (simp; omega)) _ | with_reducible refine Below.drew ?_ | with_reducible refine Ext.on _ ?_ (by first | omega | (simp; done) | (simp; omega)))); rintro r w1 hq; obtain ⟨s, rfl, y1, rfl⟩ := hq; have y1s := y1.size; simp at y1s; obtain ⟨a0, _, _, _, _⟩ := y1.lts (b := w.heap.size) (by simp))) | (go_at_call 147; ((with_reducible refine (U8.out s kk _).mono ?_); rintro r _ ⟨rfl, y2, rfl⟩; have y2s := y2.size; simp at y2s; obtain ⟨b0, _, _, _, _⟩ := y2.lts (b := w.heap.size) (by simp; omega); obtain ⟨b1, _, _, _, _⟩ := y2.lts (b := y1.val.heap.size) (by simp))) | (go_at_call 147; ((with_reducible refine (U16.out s kk _).mono ?_); rintro r _ ⟨rfl, y3, rfl⟩; have y3s := y3.size; obtain ⟨c0, _, _, _, _⟩ := y3.lts (b := w.heap.size) b0; obtain ⟨c1, _, _, _, _⟩ := y3.lts (b := y1.val.heap.size) b1)) | (go_at_call 147; ((with_reducible refine (U32.out s kk _).mono ?_); rintro r _ ⟨rfl, y4, rfl⟩; have y4s := y4.size; obtain ⟨d0, _, _, _, _⟩ := y4.lts (b := w.heap.size) c0; obtain ⟨d1, _, _, _, _⟩ := y4.lts (b := y1.val.heap.size) c1)) | (at_builtin; have _t := tok1; refine wpList_append_own_none rfl _ _ 22 rfl w.heap.size 24 i0 6 Tryd.underlying22 hi (.slice none 0 0) 0 [] rfl (World.ownsRow_nil _ _ _ 6) rfl ?_; clear tok1 _t) | (at_builtin; have _t := tok2; (first | (refine wpList_append_own_none rfl _ _ 22 rfl w.heap.size 24 i0 6 Tryd.underlying22 hi (.slice none 0 0) 0 [] rfl (World.ownsRow_nil _ _ _ 6) rfl ?_; clear tok2 _t) | (refine wpList_append_own_at _ rfl _ _ 22 rfl w.heap.size 24 i0 (.agg #[.int .i64 0, .int .i64 0, .int .i64 0, .string ⟨#[]⟩, .int .i64 0, .slice none 0 0]) 6 72 Tryd.underlying22 hi hz0 hz1 hz2 rfl (by decide) (.slice none 0 0) 0 [] rfl (World.ownsRow_nil _ _ _ 6) ⟨g6, 0, none⟩ rs6.length c6 (flatR rs6) rfl (flatR_length _) HC6.out (flatR_one _) (by have := HQLN.out; unfold maxLen; omega) (by have := HQLN.out; omega) (by first | omega | (have := y6.size; omega)) ?_; intro v7 w7 hown7 hg7 _ _; have HB6 : Hid (Below w.heap.size w y6.val) := Lib.hid (by repeat first | with_reducible exact Below.refl _ _ | with_reducible refine Below.setCell ?_ (by first | omega | (simp; done) | (simp; omega)) _ | with_reducible refine Below.alloc ?_ (by first | omega | (simp; done) | (simp; omega)) _ | with_reducible refine Below.drew ?_ | with_reducible refine Ext.on _ ?_ (by first | omega | (simp; done) | (simp; omega))); have HB7 : Hid (Below w.heap.size w w7) := Lib.hid (Below.grown (w := y6.val) HB6.out hg7 HB6.out.size (fun k hk => absurd hk (by simp [Value.ownBlock]))); have HO7 : Hid (w7.ownsRow w.heap.size 24 6 v7 rs6.length (flatR rs6)) := Lib.hid (by have h := hown7; rw [Nat.zero_add, List.nil_append] at h; exact h); have HS7 : Hid (y6.val.heap.size ≤ w7.heap.size) := Lib.hid hg7.size; clear hown7 hg7 tok2 _t))) | (go_at_call 148; ((with_reducible refine (CA.out _ ?_).mono ?_); (· (repeat first | with_reducible exact Below.refl _ _ | with_reducible refine Below.setCell ?_ (by first | omega | (simp; done) | (simp; omega)) _ | with_reducible refine Below.alloc ?_ (by first | omega | (simp; done) | (simp; omega)) _ | with_reducible refine Below.drew ?_ | with_reducible refine Ext.on _ ?_ (by first | omega | (simp; done) | (simp; omega)))); rintro r w6 hq; obtain ⟨v6, rs6, rfl, hr6, hm6, y6, rfl⟩ := hq; have hrl6 : rs6.length ≤ 2 ^ 22 := (by have h1 := congrArg List.length hm6; rw [List.length_map] at h1; have h2 := HAL.out; omega); have HM6 := Lib.hid hm6; have HQK6 := Lib.hid hr6.kid; have HBW : Hid (Below w.heap.size w y4.val) := Lib.hid (by repeat first | with_reducible exact Below.refl _ _ | with_reducible refine Below.setCell ?_ (by first | omega | (simp; done) | (simp; omega)) _ | with_reducible refine Below.alloc ?_ (by first | omega | (simp; done) | (simp; omega)) _ | with_reducible refine Below.drew ?_ | with_reducible refine Ext.on _ ?_ (by first | omega | (simp; done) | (simp; omega))); have y6s := y6.size; rcases hr6.own.2 with ⟨hv6, h06⟩ | ⟨g6, c6, cur6, hv6, _, _, _, hmx6, _, _⟩; all_goals first | (subst hv6; obtain rfl : rs6 = [] := List.eq_nil_of_length_eq_zero h06; clear hr6 hm6 h06) | (subst hv6; have HC6 := Lib.hid (World.ownsRow.cells hr6.own (g := g6) rfl); unfold maxLen at hmx6; clear hr6 hm6))))
    · go_ret
      refine ⟨[], none, 0, 0, rfl, .none, by rw [HSUM.out, HNIL.out, ← HM6.out]; rfl, Cls.of ?_⟩
      repeat first | with_reducible exact Below.refl _ _ | with_reducible refine Below.setCell ?_ (by first | omega | (simp; done) | (simp; omega)) _ | with_reducible refine Below.alloc ?_ (by first | omega | (simp; done) | (simp; omega)) _ | with_reducible refine Below.drew ?_ | with_reducible refine Ext.on _ ?_ (by first | omega | (simp; done) | (simp; omega))
    · obtain ⟨a9, c9, hv9, hk9⟩ := rowKids HO7.out fun r hr => ⟨(HQK6.out r hr).1, (HQK6.out r hr).2.carry (Nat.le_trans y6s HS7.out) fun b _ hb => ⟨trivial, (HB7.out.block b hb).trans (HBW.out.block b hb).symm⟩⟩
      subst hv9
      have HK9 := Lib.hid hk9
      clear hk9
      go_ret
      exact ⟨_, a9, _, c9, rfl, HK9.out, by rw [HM6.out, HSUM.out, HNIL.out]; simp [nodL], Cls.of HB7.out⟩
  | some ad0 =>
    obtain ⟨qs, hqm, hql, hqk, hqc⟩ := kids_recs HEX.out
    have HQM := Lib.hid hqm
    have HQL := Lib.hid hql
    have HQK := Lib.hid hqk
    have HQC := Lib.hid hqc
    clear hqm hql hqk hqc
    have tok1 : True := trivial
    have HQLN : Hid (qs.length ≤ 2 ^ 22) := Lib.hid (by rw [HQL.out]; exact hel)
    have tok2 : True := trivial
    go_enter Tryd.func100, Tryd.ntmps100
    go_wp2_with (first | (go_at_call 103; ((with_reducible refine (CF.out _ ?_).mono ?_); (· (repeat first | with_reducible exact Below.refl _ _ | with_reducible refine Below.setCell ?_ (by first | omega | (simp; done) | (simp; omega)) _ | with_reducible refine Below.alloc ?_ (by first | omega | (simp; done) | (simp; omega)) _ | with_reducible refine Below.drew ?_ | with_reducible refine Ext.on _ ?_ (by first | omega | (simp; done) | (simp; omega)))); rintro r w1 hq; obtain ⟨s, rfl, y1, rfl⟩ := hq; have y1s := y1.size; simp at y1s; obtain ⟨a0, _, _, _, _⟩ := y1.lts (b := w.heap.size) (by simp))) | (go_at_call 147; ((with_reducible refine (U8.out s kk _).mono ?_); rintro r _ ⟨rfl, y2, rfl⟩; have y2s := y2.size; simp at y2s; obtain ⟨b0, _, _, _, _⟩ := y2.lts (b := w.heap.size) (by simp; omega); obtain ⟨b1, _, _, _, _⟩ := y2.lts (b := y1.val.heap.size) (by simp))) | (go_at_call 147; ((with_reducible refine (U16.out s kk _).mono ?_); rintro r _ ⟨rfl, y3, rfl⟩; have y3s := y3.size; obtain ⟨c0, _, _, _, _⟩ := y3.lts (b := w.heap.size) b0; obtain ⟨c1, _, _, _, _⟩ := y3.lts (b := y1.val.heap.size) b1)) | (go_at_call 147; ((with_reducible refine (U32.out s kk _).mono ?_); rintro r _ ⟨rfl, y4, rfl⟩; have y4s := y4.size; obtain ⟨d0, _, _, _, _⟩ := y4.lts (b := w.heap.size) e00; obtain ⟨d1, _, _, _, _⟩ := y4.lts (b := y1.val.heap.size) e11)) | (at_builtin; have _t := tok1; refine wpList_append_own_at _ rfl _ _ 22 rfl w.heap.size 24 i0 (.agg #[.int .i64 0, .int .i64 0, .int .i64 0, .string ⟨#[]⟩, .int .i64 0, .slice none 0 0]) 6 72 Tryd.underlying22 hi hz0 hz1 hz2 rfl (by decide) (.slice none 0 0) 0 [] rfl (World.ownsRow_nil _ _ _ 6) ad0 en ec (flatR qs) rfl (by rw [flatR_length, HQL.out]) (HQC.out y3.val (by repeat first | with_reducible exact Below.refl _ _ | with_reducible refine Below.setCell ?_ (by first | omega | (simp; done) | (simp; omega)) _ | with_reducible refine Below.alloc ?_ (by first | omega | (simp; done) | (simp; omega)) _ | with_reducible refine Below.drew ?_ | with_reducible refine Ext.on _ ?_ (by first | omega | (simp; done) | (simp; omega)))) (flatR_one _) (by unfold maxLen; omega) (by omega) (by omega) ?_; intro v5 w5 hown5 hg5 _ _; have hB5 : Below y3.val.heap.size y3.val w5 := Below.grown (w := y3.val) (Below.refl _ _) hg5 (Nat.le_refl _) (fun k hk => absurd hk (by simp [Value.ownBlock])); obtain ⟨tt, htt⟩ : ∃ t : Ext y3.val, t.val = w5 := ⟨⟨w5, hB5⟩, rfl⟩; subst htt; have HO5 : Hid (RowE w.heap.size w tt.val v5 qs) := Lib.hid (by have h := RowE.push (qs := qs) (RowE.nil w.heap.size w tt.val) HQK.out (by rw [HQL.out]; exact hown5); exact h); clear hown5 hg5 hB5 tok1 _t; have tts := tt.size; obtain ⟨e00, _, _, _, _⟩ := tt.lts (b := w.heap.size) c0; obtain ⟨e11, _, _, _, _⟩ := tt.lts (b := y1.val.heap.size) c1) | (at_builtin; have _t := tok2; (first | (refine wpList_append_own_none rfl _ _ 22 rfl w.heap.size 24 i0 6 Tryd.underlying22 hi v5 qs.length (flatR qs) rfl (own_later HO5.out.own (by repeat first | with_reducible exact Below.refl _ _ | with_reducible refine Below.setCell ?_ (by first | omega | (simp; done) | (simp; omega)) _ | with_reducible refine Below.alloc ?_ (by first | omega | (simp; done) | (simp; omega)) _ | with_reducible refine Below.drew ?_ | with_reducible refine Ext.on _ ?_ (by first | omega | (simp; done) | (simp; omega)))) rfl ?_; clear tok2 _t) | (refine wpList_append_own_at _ rfl _ _ 22 rfl w.heap.size 24 i0 (.agg #[.int .i64 0, .int .i64 0, .int .i64 0, .string ⟨#[]⟩, .int .i64 0, .slice none 0 0]) 6 72 Tryd.underlying22 hi hz0 hz1 hz2 rfl (by decide) v5 qs.length (flatR qs) rfl (own_later HO5.out.own (by repeat first | with_reducible exact Below.refl _ _ | with_reducible refine Below.setCell ?_ (by first | omega | (simp; done) | (simp; omega)) _ | with_reducible refine Below.alloc ?_ (by first | omega | (simp; done) | (simp; omega)) _ | with_reducible refine Below.drew ?_ | with_reducible refine Ext.on _ ?_ (by first | omega | (simp; done) | (simp; omega)))) ⟨g6, 0, none⟩ rs6.length c6 (flatR rs6) rfl (flatR_length _) HC6.out (flatR_one _) (by have := HQLN.out; unfold maxLen; omega) (by have := HQLN.out; omega) (by first | omega | (have := y6.size; omega)) ?_; intro v7 w7 hown7 hg7 _ _; have HB6 : Hid (Below w.heap.size w y6.val) := Lib.hid (by repeat first | with_reducible exact Below.refl _ _ | with_reducible refine Below.setCell ?_ (by first | omega | (simp; done) | (simp; omega)) _ | with_reducible refine Below.alloc ?_ (by first | omega | (simp; done) | (simp; omega)) _ | with_reducible refine Below.drew ?_ | with_reducible refine Ext.on _ ?_ (by first | omega | (simp; done) | (simp; omega))); have HB7 : Hid (Below w.heap.size w w7) := Lib.hid (Below.grown (w := y6.val) HB6.out hg7 HB6.out.size (fun k hk => (HO5.out.own.lt k hk).1)); have HO7 : Hid (w7.ownsRow w.heap.size 24 6 v7 (qs ++ rs6).length (flatR (qs ++ rs6))) := Lib.hid (by rw [List.length_append, flatR_append]; exact hown7); have HS7 : Hid (y6.val.heap.size ≤ w7.heap.size) := Lib.hid hg7.size; clear hown7 hg7 tok2 _t))) | (go_at_call 148; ((with_reducible refine (CA.out _ ?_).mono ?_); (· (repeat first | with_reducible exact Below.refl _ _ | with_reducible refine Below.setCell ?_ (by first | omega | (simp; done) | (simp; omega)) _ | with_reducible refine Below.alloc ?_ (by first | omega | (simp; done) | (simp; omega)) _ | with_reducible refine Below.drew ?_ | with_reducible refine Ext.on _ ?_ (by first | omega | (simp; done) | (simp; omega)))); rintro r w6 hq; obtain ⟨v6, rs6, rfl, hr6, hm6, y6, rfl⟩ := hq; have hrl6 : rs6.length ≤ 2 ^ 22 := (by have h1 := congrArg List.length hm6; rw [List.length_map] at h1; have h2 := HAL.out; omega); have HM6 := Lib.hid hm6; have HQK6 := Lib.hid hr6.kid; have HBW : Hid (Below w.heap.size w y4.val) := Lib.hid (by repeat first | with_reducible exact Below.refl _ _ | with_reducible refine Below.setCell ?_ (by first | omega | (simp; done) | (simp; omega)) _ | with_reducible refine Below.alloc ?_ (by first | omega | (simp; done) | (simp; omega)) _ | with_reducible refine Below.drew ?_ | with_reducible refine Ext.on _ ?_ (by first | omega | (simp; done) | (simp; omega))); have y6s := y6.size; rcases hr6.own.2 with ⟨hv6, h06⟩ | ⟨g6, c6, cur6, hv6, _, _, _, hmx6, _, _⟩; all_goals first | (subst hv6; obtain rfl : rs6 = [] := List.eq_nil_of_length_eq_zero h06; clear hr6 hm6 h06) | (subst hv6; have HC6 := Lib.hid (World.ownsRow.cells hr6.own (g := g6) rfl); unfold maxLen at hmx6; clear hr6 hm6))))
    · have hB6 : Below w.heap.size w y6.val := by repeat first | with_reducible exact Below.refl _ _ | with_reducible refine Below.setCell ?_ (by first | omega | (simp; done) | (simp; omega)) _ | with_reducible refine Below.alloc ?_ (by first | omega | (simp; done) | (simp; omega)) _ | with_reducible refine Below.drew ?_ | with_reducible refine Ext.on _ ?_ (by first | omega | (simp; done) | (simp; omega))
      obtain ⟨a9, c9, hv9, hk9⟩ := RowE.kids (wr := y6.val) ⟨own_later HO5.out.own (by repeat first | with_reducible exact Below.refl _ _ | with_reducible refine Below.setCell ?_ (by first | omega | (simp; done) | (simp; omega)) _ | with_reducible refine Below.alloc ?_ (by first | omega | (simp; done) | (simp; omega)) _ | with_reducible refine Below.drew ?_ | with_reducible refine Ext.on _ ?_ (by first | omega | (simp; done) | (simp; omega))), HO5.out.kid⟩ hB6
      subst hv9
      have HK9 := Lib.hid hk9
      clear hk9
      go_ret
      exact ⟨_, a9, _, c9, rfl, HK9.out, by rw [HQM.out, HSUM.out, ← HM6.out]; simp [nodL], Cls.of hB6⟩
    · obtain ⟨a9, c9, hv9, hk9⟩ := rowKids HO7.out fun r hr => by
        rcases List.mem_append.1 hr with hr | hr
        · exact ⟨(HO5.out.kid r hr).1, ((HO5.out.kid r hr).2.later HB7.out).any⟩
        · exact ⟨(HQK6.out r hr).1, (HQK6.out r hr).2.carry (Nat.le_trans y6s HS7.out) fun b _ hb => ⟨trivial, (HB7.out.block b hb).trans (HBW.out.block b hb).symm⟩⟩
      subst hv9
      have HK9 := Lib.hid hk9
      clear hk9
      go_ret
      exact ⟨_, a9, _, c9, rfl, HK9.out, by rw [List.map_append, nodL_append, HQM.out, HM6.out, HSUM.out], Cls.of HB7.out⟩
theorem expressions_calls (p : Qr) (ks : Sl) (w : World) (hp : QrAt w p) (ht : OpT w) (hgl : p.gs.len ≤ 2 ^ 22) (hel : p.es.len ≤ 2 ^ 22) : ExprsOf p ks w := by
  by_cases h10 : p.op = 10
  · exact exprs_both p ks w hp ht hgl hel h10
  by_cases h4 : p.op = 4
  · exact exprs_list p ks w hp ht hgl hel h4
  by_cases h3 : p.op = 3 ∨ p.op = 5
  · exact exprs_cond p ks w hp ht hgl hel h3
  exact exprs_no p ks w hp ht hgl hel ⟨fun h => h3 (.inl h), h4, fun h => h3 (.inr h), h10⟩
end Go.Proofs.YtbnhmjecjeifdaaDoor
