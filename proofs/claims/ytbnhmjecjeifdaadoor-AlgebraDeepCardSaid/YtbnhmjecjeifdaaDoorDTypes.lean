/-
  The types of a distinct: those of what stands below it.
-/
import Derived.Test.YtbnhmjecjeifdaaDoorDHas
import Derived.Test.YtbnhmjecjeifdaaDoorOpT
import Derived.LoopTactic
set_option linter.unusedVariables false
namespace Go.Proofs.YtbnhmjecjeifdaaDoor
open Go Go.RowKit Go.Deep
/-- So many types, and no error. -/
def TysIs (m : Nat) (w : World) (r : Ending) (w' : World) : Prop := ∃ s : Sl, r = .returned (.tuple #[.slice s.a s.len s.cap, .int .i64 0]) ∧ s.len = m ∧ Cls w w'
theorem infoLL : (Tryd.prog.info? 31).map (fun i => (i.zero, i.size, i.bytes)) = some (some (.slice none 0 0), 1, 24) := by kernel_rfl
set_option maxHeartbeats 4000000 in
set_option maxRecDepth 20000 in
theorem opTypes_distinct (sv : Value) (b off c : Nat) (g : Nat) (cg : Nat) (s : Sl) (w : World) (hcell : w.cell? ⟨g, 0, none⟩ = some (.slice s.a s.len s.cap)) (hg : g < w.heap.size) (h1 : 1 ≤ cg) (h2 : cg ≤ maxLen) (hsv : ∃ x, sv = .agg #[x]) :
    Calls Tryd.prog 105 #[sv, .agg #[.int .i64 9, .string ⟨#[]⟩, .int .i64 0, .bool false, .int .i64 0, .int .i64 0, .int .i64 0, .string ⟨#[]⟩, .int .i64 0, .slice none 0 0, .slice none 0 0, .slice none 0 0, .slice none 0 0, .slice none 0 0, .slice (some ⟨b, off, none⟩) 1 c], .slice (some ⟨g, 0, none⟩) 1 cg] w fun r w' => r = .returned (.tuple #[.slice s.a s.len s.cap, .int .i64 0]) ∧ Cls w w' := by
  unfold maxLen at h2
  obtain ⟨x, rfl⟩ := hsv
  go_enter Tryd.func105, Tryd.ntmps105
  go_wp2_with fail
  go_ret2
  refine ⟨rfl, Cls.of ?_⟩
  repeat first | with_reducible exact Below.refl _ _ | with_reducible refine Below.setCell ?_ (by first | omega | (simp; done) | (simp; omega)) _ | with_reducible refine Below.alloc ?_ (by first | omega | (simp; done) | (simp; omega)) _ | with_reducible refine Below.drew ?_ | with_reducible refine Ext.on _ ?_ (by first | omega | (simp; done) | (simp; omega))
set_option maxHeartbeats 8000000 in
set_option maxRecDepth 20000 in
theorem typesOf_distinct (ta : Option Addr) (tn tc : Nat) (k : Qy) (m : Nat) (b off c : Nat) (w : World) (hkid : ∀ j, j < 15 → w.cell? ⟨b, off + j, none⟩ = k.cells[j]?) (hb : b < w.heap.size) (hc1 : 1 ≤ c) (hc2 : c ≤ maxLen) (ht : OpT w)
    (hk : ∀ W, Below w.heap.size w W → Calls Tryd.prog 59 #[.agg #[.slice ta tn tc], .agg #[.int .i64 k.p.op, .string k.p.table, .int .i64 k.p.kind, .bool k.p.all, .int .i64 k.p.cond.op, .int .i64 k.p.cond.ty, .int .i64 k.p.cond.num, .string k.p.cond.text, .int .i64 k.p.cond.col, .slice k.p.ck.a k.p.ck.len k.p.ck.cap, .slice k.p.es.a k.p.es.len k.p.es.cap, .slice k.p.gs.a k.p.gs.len k.p.gs.cap, .slice k.p.ts.a k.p.ts.len k.p.ts.cap, .slice k.p.rs.a k.p.rs.len k.p.rs.cap, .slice k.ks.a k.ks.len k.ks.cap]] W (TysIs m W)) :
    Calls Tryd.prog 59 #[.agg #[.slice ta tn tc], .agg #[.int .i64 9, .string ⟨#[]⟩, .int .i64 0, .bool false, .int .i64 0, .int .i64 0, .int .i64 0, .string ⟨#[]⟩, .int .i64 0, .slice none 0 0, .slice none 0 0, .slice none 0 0, .slice none 0 0, .slice none 0 0, .slice (some ⟨b, off, none⟩) 1 c]] w (TysIs m w) := by
  have hcm := hc2
  unfold maxLen at hcm
  obtain ⟨i0, hi, hz0, hz1, hz2⟩ := info_parts infoLL
  have HK := Lib.hid hk
  have CF : Hid (∀ W, Below w.heap.size w W → Calls Tryd.prog 103 #[.int .i64 9] W fun r w' => ∃ s : ByteArray, r = .returned (.tuple #[.agg #[.string s, .int .i64 0, .int .i64 1], .bool true]) ∧ Cls W w') := Lib.hid (fun W hW => findO_calls 9 W (ht.later hW))
  have hb1 : b < w.heap.size + 1 := by omega
  have hb2 : b < w.heap.size + 1 + 1 := by omega
  have p0 := hkid 0 (by omega)
  have p1 := hkid 1 (by omega)
  have p2 := hkid 2 (by omega)
  have p3 := hkid 3 (by omega)
  have p4 := hkid 4 (by omega)
  have p5 := hkid 5 (by omega)
  have p6 := hkid 6 (by omega)
  have p7 := hkid 7 (by omega)
  have p8 := hkid 8 (by omega)
  have p9 := hkid 9 (by omega)
  have p10 := hkid 10 (by omega)
  have p11 := hkid 11 (by omega)
  have p12 := hkid 12 (by omega)
  have p13 := hkid 13 (by omega)
  have p14 := hkid 14 (by omega)
  simp only [Qy.cells, Sl.v, List.getElem?_cons_zero, List.getElem?_cons_succ, Nat.add_zero] at p0 p1 p2 p3 p4 p5 p6 p7 p8 p9 p10 p11 p12 p13 p14
  clear hkid hk ht
  go_enter Tryd.func59, Tryd.ntmps59
  go_wp2_with fail
  go_loopw [6, 16] (fun u i wr => (i = .int .i64 0 ∧ u = .slice none 0 0 ∧ Cls ((w.alloc (.cells #[.slice ta tn tc] 37)).alloc (.cells #[.int .i64 9, .string ⟨#[]⟩, .int .i64 0, .bool false, .int .i64 0, .int .i64 0, .int .i64 0, .string ⟨#[]⟩, .int .i64 0, .slice none 0 0, .slice none 0 0, .slice none 0 0, .slice none 0 0, .slice none 0 0, .slice (some ⟨b, off, none⟩) 1 c] 63)) wr) ∨ (i = .int .i64 1 ∧ ∃ s : Sl, s.len = m ∧ wr.ownsRow w.heap.size 31 1 u 1 [.slice s.a s.len s.cap] ∧ Cls ((w.alloc (.cells #[.slice ta tn tc] 37)).alloc (.cells #[.int .i64 9, .string ⟨#[]⟩, .int .i64 0, .bool false, .int .i64 0, .int .i64 0, .int .i64 0, .string ⟨#[]⟩, .int .i64 0, .slice none 0 0, .slice none 0 0, .slice none 0 0, .slice none 0 0, .slice none 0 0, .slice (some ⟨b, off, none⟩) 1 c] 63)) wr)) (fun _ i _ => 1 - (intOf i).toNat)
  case atStart =>
    refine .inl ⟨rfl, rfl, Cls.of ?_⟩
    repeat first | with_reducible exact Below.refl _ _ | with_reducible refine Below.setCell ?_ (by first | omega | (simp; done) | (simp; omega)) _ | with_reducible refine Below.alloc ?_ (by first | omega | (simp; done) | (simp; omega)) _ | with_reducible refine Below.drew ?_ | with_reducible refine Ext.on _ ?_ (by first | omega | (simp; done) | (simp; omega))
  case round =>
    rcases hrel with ⟨rfl, rfl, y, rfl⟩ | ⟨rfl, s, hsm, hown, y, rfl⟩
    · have ys := y.size
      simp at ys
      have yl : w.heap.size < y.val.heap.size := by omega
      have yl1 : w.heap.size + 1 < y.val.heap.size := by omega
      go_wp2_with (first | (go_at_call 59; ((with_reducible refine (HK.out _ ?_).mono ?_); (· (repeat first | with_reducible exact Below.refl _ _ | with_reducible refine Below.setCell ?_ (by first | omega | (simp; done) | (simp; omega)) _ | with_reducible refine Below.alloc ?_ (by first | omega | (simp; done) | (simp; omega)) _ | with_reducible refine Below.drew ?_ | with_reducible refine Ext.on _ ?_ (by first | omega | (simp; done) | (simp; omega)))); rintro r w2 hq; obtain ⟨s, rfl, hsm, z, rfl⟩ := hq; have HSM := Lib.hid hsm; clear hsm; have zs := z.size; simp at zs)) | (at_builtin; refine wpList_append_own_at _ rfl _ _ 44 rfl w.heap.size 31 i0 (.slice none 0 0) 1 24 Tryd.underlying44 hi hz0 hz1 hz2 rfl (by decide) (.slice none 0 0) 0 [] rfl (World.ownsRow_nil _ _ _ 1) ⟨z.val.heap.size, 0, none⟩ 1 1 [.slice s.a s.len s.cap] rfl rfl (cells_new _ _ _) (fun u hu => by rcases List.mem_singleton.1 hu with rfl; rfl) (by unfold maxLen; omega) (by omega) (by simp; omega) ?_; intro v1 w1 hown1 hg1 _ hat1; have HB1 : Hid (Below (w.heap.size + 1 + 1) ((w.alloc (.cells #[.slice ta tn tc] 37)).alloc (.cells #[.int .i64 9, .string ⟨#[]⟩, .int .i64 0, .bool false, .int .i64 0, .int .i64 0, .int .i64 0, .string ⟨#[]⟩, .int .i64 0, .slice none 0 0, .slice none 0 0, .slice none 0 0, .slice none 0 0, .slice none 0 0, .slice (some ⟨b, off, none⟩) 1 c] 63)) w1) := Lib.hid (Below.grown (w := z.val.alloc _) (by repeat first | with_reducible exact Below.refl _ _ | with_reducible refine Below.setCell ?_ (by first | omega | (simp; done) | (simp; omega)) _ | with_reducible refine Below.alloc ?_ (by first | omega | (simp; done) | (simp; omega)) _ | with_reducible refine Below.drew ?_ | with_reducible refine Ext.on _ ?_ (by first | omega | (simp; done) | (simp; omega))) hg1 (by simp; omega) (fun k hk => absurd hk (by simp [Value.ownBlock]))); have HO1 := Lib.hid hown1; clear hown1 hg1 hat1))
      go_roundw
      case rel =>
        exact .inr ⟨by go_num, s, HSM.out, HO1.out, Cls.of (HB1.out.mono (by simp))⟩
      case measure => simp [intOf]
    · have ys := y.size
      simp at ys
      have yl : w.heap.size < y.val.heap.size := by omega
      have yl1 : w.heap.size + 1 < y.val.heap.size := by omega
      have HSM := Lib.hid hsm
      rcases hown.2 with ⟨_, h0⟩ | ⟨g, cap, cur, rfl, hbg, hh, hn, hcp, hr, htk⟩
      · cases h0
      · have hcell : y.val.cell? ⟨g, 0, none⟩ = some (.slice s.a s.len s.cap) := by
          have h := World.ownsRow.cells hown (g := g) rfl 0 (.slice s.a s.len s.cap) rfl
          simpa [Addr.add] using h
        have hgl := (Array.getElem?_eq_some_iff.1 hh).1
        have CO : Hid (∀ W, Below y.val.heap.size y.val W → Calls Tryd.prog 105 #[.agg #[.slice ta tn tc], .agg #[.int .i64 9, .string ⟨#[]⟩, .int .i64 0, .bool false, .int .i64 0, .int .i64 0, .int .i64 0, .string ⟨#[]⟩, .int .i64 0, .slice none 0 0, .slice none 0 0, .slice none 0 0, .slice none 0 0, .slice none 0 0, .slice (some ⟨b, off, none⟩) 1 c], .slice (some ⟨g, 0, none⟩) 1 cap] W fun r w' => r = .returned (.tuple #[.slice s.a s.len s.cap, .int .i64 0]) ∧ Cls W w') := Lib.hid (fun W hW => opTypes_distinct _ b off c g cap s W ((hW.cell (p := ⟨g, 0, none⟩) hgl).trans hcell) (Nat.lt_of_lt_of_le hgl hW.size) hn hcp ⟨_, rfl⟩)
        have CH : Hid (∀ (s : ByteArray) W, Calls Tryd.prog 104 #[.agg #[.int .i64 9, .string ⟨#[]⟩, .int .i64 0, .bool false, .int .i64 0, .int .i64 0, .int .i64 0, .string ⟨#[]⟩, .int .i64 0, .slice none 0 0, .slice none 0 0, .slice none 0 0, .slice none 0 0, .slice none 0 0, .slice (some ⟨b, off, none⟩) 1 c], .agg #[.string s, .int .i64 0, .int .i64 1]] W fun r w' => r = .returned (.bool true) ∧ Cls W w') := Lib.hid (fun s W => hasOnly_distinct ⟨some ⟨b, off, none⟩, 1, c⟩ s 1 W)
        unfold maxLen at hcp
        clear hown hh hr htk hcell hsm
        go_wp2_with (first | (go_at_call 103; ((with_reducible refine (CF.out _ ?_).mono ?_); (· (repeat first | with_reducible exact Below.refl _ _ | with_reducible refine Below.setCell ?_ (by first | omega | (simp; done) | (simp; omega)) _ | with_reducible refine Below.alloc ?_ (by first | omega | (simp; done) | (simp; omega)) _ | with_reducible refine Below.drew ?_ | with_reducible refine Ext.on _ ?_ (by first | omega | (simp; done) | (simp; omega)))); rintro r w2 hq; obtain ⟨nm, rfl, z, rfl⟩ := hq; have zs := z.size; obtain ⟨a0, _, _, _, _⟩ := z.lts (b := w.heap.size) yl; obtain ⟨a1, _, _, _, _⟩ := z.lts (b := w.heap.size + 1) yl1)) | (go_at_call 104; ((with_reducible refine (CH.out nm _).mono ?_); rintro r _ ⟨rfl, x, rfl⟩; have xs := x.size; simp at xs; have d0 : w.heap.size < x.val.heap.size := (by omega); have d1 : w.heap.size + 1 < x.val.heap.size := (by omega))) | (go_at_call 105; ((with_reducible refine (CO.out _ ?_).mono ?_); (· (repeat first | with_reducible exact Below.refl _ _ | with_reducible refine Below.setCell ?_ (by first | omega | (simp; done) | (simp; omega)) _ | with_reducible refine Below.alloc ?_ (by first | omega | (simp; done) | (simp; omega)) _ | with_reducible refine Below.drew ?_ | with_reducible refine Ext.on _ ?_ (by first | omega | (simp; done) | (simp; omega)))); rintro r _ ⟨rfl, t, rfl⟩)))
        go_ret2
        refine ⟨s, rfl, HSM.out, Cls.of ?_⟩
        repeat first | with_reducible exact Below.refl _ _ | with_reducible refine Below.setCell ?_ (by first | omega | (simp; done) | (simp; omega)) _ | with_reducible refine Below.alloc ?_ (by first | omega | (simp; done) | (simp; omega)) _ | with_reducible refine Below.drew ?_ | with_reducible refine Ext.on _ ?_ (by first | omega | (simp; done) | (simp; omega))
end Go.Proofs.YtbnhmjecjeifdaaDoor
