/-
  Which table can come next: the program's ready and what it calls. The first table that can come next: the program's ready. Worlds that are later ones but for one block: the map that a call has made. Small facts on blocks and rows; rows of numbers. The first error of what the foreign keys of a schema name: the program's targetError.
-/
import Derived.Test.YtpddkljedhghkaaDoorJ22
import Derived.Test.YtpddkljedhghkaaDoorJ07
import Derived.Test.YtpddkljedhghkaaDoorJ04
import Derived.Maps.AppendAt
import Derived.OwnWalk
set_option linter.unusedVariables false
namespace Go.Proofs.YtpddkljedhghkaaDoor
open Go Go.RowKit Go.Deep
set_option maxHeartbeats 4000000 in
set_option maxRecDepth 20000 in
theorem waits_calls (j b B c m : Nat) (f : Nat → Option Value) (w : World) (hm : MapIs w B c m f) (hb : w.cell? ⟨b, 0, none⟩ = some (.map (some B))) (hj : j < 1000) :
    Calls Tryd.prog 135 #[.int .i64 (j : Nat), .pointer (some ⟨b, 0, none⟩)] w fun r w' => r = .returned (.bool (f j).isSome) ∧ Cls w w' := by
  have hl := hm.look_ok hj
  go_enter Tryd.func135, Tryd.ntmps135
  go_wp2_with fail
  go_ret
  refine ⟨ret_bool rfl, Cls.of ?_⟩
  repeat first | with_reducible exact Below.refl _ _ | with_reducible refine Below.setCell ?_ (by first | omega | (simp; done) | (simp; omega)) _ | with_reducible refine Below.alloc ?_ (by first | omega | (simp; done) | (simp; omega)) _ | with_reducible refine Below.drew ?_ | with_reducible refine Ext.on _ ?_ (by first | omega | (simp; done) | (simp; omega))
set_option maxHeartbeats 4000000 in
set_option maxRecDepth 20000 in
theorem indexW_calls (s : Sl) (tl : Nat → Nat) (bx B c m : Nat) (f : Nat → Option Value) (w : World) (hm : MapIs w B c m f) (hb : w.cell? ⟨bx, 0, none⟩ = some (.map (some B))) (hlt : bx < w.heap.size) (hs : SlAt w 1 s (intC fun i => ((tl i : Nat) : Int))) (ht : ∀ i, i < s.len → tl i < 1000) :
    Calls Tryd.prog 150 #[.slice s.a s.len s.cap, .func (.func 135) #[] #[.pointer (some ⟨bx, 0, none⟩)]] w fun r w' => r = .returned (.int .i64 (idx (fun i => (f (tl i)).isSome) 0 s.len)) ∧ Cls w w' := by
  have hle := hs.1
  have hmax := hs.2.1
  unfold maxLen at hmax
  have H := Lib.hid hs.2.2.2
  have HT := Lib.hid ht
  have HM := Lib.hid hm
  clear hs ht hm
  obtain ⟨sa, sn, sc⟩ := s
  simp only at hle hmax H HT
  go_enter Tryd.func150, Tryd.ntmps150
  go_wp2_with fail
  go_loopw [8] (fun i wr => ∃ j : Nat, j ≤ sn ∧ i = .int .i64 j ∧ idx (fun i => (f (tl i)).isSome) 0 sn = idx (fun i => (f (tl i)).isSome) j (sn - j) ∧ Cls w wr) (fun i _ => sn - (intOf i).toNat)
  case atStart => exact ⟨0, Nat.zero_le _, rfl, rfl, Cls.of (Below.refl _ _)⟩
  case round =>
    obtain ⟨j, hj, rfl, he, x, rfl⟩ := hrel
    have HE := Lib.hid he
    clear he
    have xs := x.size
    by_cases hltj : j < sn
    · obtain ⟨b, off, ha, hb2, hc⟩ := H.out j hltj
      subst ha
      have q0 := hc 0 (by omega)
      simp only [intC, List.getElem?_cons_zero, Nat.add_zero, Nat.mul_one] at q0
      have hS : Hid (sn - j = (sn - (j + 1)) + 1) := Lib.hid (by omega)
      have C1 : Hid (∀ W, Below w.heap.size w W → Calls Tryd.prog 135 #[.int .i64 (tl j : Nat), .pointer (some ⟨bx, 0, none⟩)] W fun r w' => r = .returned (.bool (f (tl j)).isSome) ∧ Cls W w') := Lib.hid (fun W hW => waits_calls (tl j) bx B c m f W (HM.out.later hW) (by rw [hW.cell (p := ⟨bx, 0, none⟩) hlt]; exact hb) (HT.out j hltj))
      clear hc
      cases hbb : (f (tl j)).isSome
      all_goals
        have HB := Lib.hid hbb
        rw [hbb] at C1
        clear hbb
        generalize tl j = tj at q0 C1
        go_wp2_with (go_at_call 135; ((with_reducible refine (Cls.call (C1.out _ x.below)).mono ?_); rintro r _ ⟨rfl, y, rfl⟩))
      · go_roundw
        case rel => exact ⟨j + 1, by omega, by go_num, by rw [HE.out, hS.out, idx_go HB.out], y, rfl⟩
        case measure => simp [intOf]; omega
      · go_ret
        exact ⟨ret_int (by rw [HE.out, hS.out, idx_stop HB.out]), y, rfl⟩
    · have hz : Hid (sn - j = 0) := Lib.hid (by omega)
      go_wp2_with fail
      go_ret
      exact ⟨ret_int (by rw [HE.out, hz.out]; rfl), x, rfl⟩
set_option maxHeartbeats 4000000 in
set_option maxRecDepth 20000 in
theorem containsW_calls (s : Sl) (tl : Nat → Nat) (bx B c m : Nat) (f : Nat → Option Value) (w : World) (hm : MapIs w B c m f) (hb : w.cell? ⟨bx, 0, none⟩ = some (.map (some B))) (hlt : bx < w.heap.size) (hs : SlAt w 1 s (intC fun i => ((tl i : Nat) : Int))) (ht : ∀ i, i < s.len → tl i < 1000) :
    Calls Tryd.prog 131 #[.slice s.a s.len s.cap, .func (.func 135) #[] #[.pointer (some ⟨bx, 0, none⟩)]] w fun r w' => r = .returned (.bool (decide (0 ≤ idx (fun i => (f (tl i)).isSome) 0 s.len))) ∧ Cls w w' := by
  have C1 := Lib.hid (indexW_calls s tl bx B c m f w hm hb hlt hs ht)
  clear hm hs ht
  generalize idx (fun i => (f (tl i)).isSome) 0 s.len = n at C1 ⊢
  go_enter Tryd.func131, Tryd.ntmps131
  go_wp2_with (go_at_call 150; ((with_reducible refine C1.out.mono ?_); rintro r _ ⟨rfl, y, rfl⟩))
  go_ret
  exact ⟨ret_bool (by simp), y, rfl⟩
end Go.Proofs.YtpddkljedhghkaaDoor
set_option linter.unusedVariables false
namespace Go.Proofs.YtpddkljedhghkaaDoor
open Go Go.RowKit Go.Deep
/-- Table i waits, but for none that waits. -/
def goodF (sl : Sl) (tb : Nat → Tb) (f : Nat → Option Value) (i : Nat) : Bool := (f i).isSome && !decide (0 ≤ idx (fun k => (f (tgN sl tb i k)).isSome) 0 (tb i).fs.len)
/-- The targets of each table that waits. -/
def RowsAt (sl : Sl) (tb : Nat → Tb) (f : Nat → Option Value) (s : Nat → Sl) (w : World) : Prop := ∀ j, j < sl.len → f j = none ∨ (f j = some (s j).v ∧ (s j).len = (tb j).fs.len ∧ SlAt w 1 (s j) (intC fun i => ((tgN sl tb j i : Nat) : Int)))
theorem RowsAt.later {sl : Sl} {tb : Nat → Tb} {f : Nat → Option Value} {s : Nat → Sl} {w w' : World} (h : RowsAt sl tb f s w) (hb : Below w.heap.size w w') : RowsAt sl tb f s w' := fun j hj => (h j hj).imp id fun ⟨h1, h2, h3⟩ => ⟨h1, h2, h3.later hb⟩
set_option maxHeartbeats 8000000 in
set_option maxRecDepth 20000 in
theorem ready_calls (sl : Sl) (tb : Nat → Tb) (s : Nat → Sl) (B c m : Nat) (f : Nat → Option Value) (w : World) (hm : MapIs w B c m f) (hr : RowsAt sl tb f s w) (hall : allT sl tb) (hn : sl.len ≤ 10) :
    Calls Tryd.prog 104 #[.int .i64 (sl.len : Nat), .map (some B)] w fun r w' => r = .returned (.tuple #[.int .i64 (at0 (idx (goodF sl tb f) 0 sl.len)), .bool (decide (0 ≤ idx (goodF sl tb f) 0 sl.len))]) ∧ Cls w w' := by
  have HM := Lib.hid hm
  have HR := Lib.hid hr
  have HA := Lib.hid hall
  have HL : Hid (∀ i k, i < sl.len → k < (tb i).fs.len → tgN sl tb i k < 1000) := Lib.hid (fun i k hi hk => by have := tg_lt (hall i hi k hk); omega)
  clear hm hr hall
  generalize hsn : sl.len = sn at hn
  go_enter Tryd.func104, Tryd.ntmps104
  go_wp2_with fail
  go_loopw [10] (fun i wr => ∃ j : Nat, j ≤ sn ∧ i = .int .i64 (j : Nat) ∧ idx (goodF sl tb f) 0 sn = idx (goodF sl tb f) j (sn - j) ∧ Cls (w.alloc (.cells #[.map (some B)] 123)) wr) (fun i _ => sn - (intOf i).toNat)
  case atStart => exact ⟨0, Nat.zero_le _, rfl, rfl, Cls.of (Below.refl _ _)⟩
  case round =>
    obtain ⟨j, hj, rfl, he, x, rfl⟩ := hrel
    have HE := Lib.hid he
    clear he
    have xs := x.size
    have xs2 : w.heap.size + 1 ≤ x.val.heap.size := by simpa using xs
    by_cases hltj : j < sn
    · have hS : Hid (sn - j = (sn - (j + 1)) + 1) := Lib.hid (by omega)
      have hG : Hid (goodF sl tb f j = ((f j).isSome && !decide (0 ≤ idx (fun k => (f (tgN sl tb j k)).isSome) 0 (tb j).fs.len))) := Lib.hid rfl
      have hbx : (w.alloc (.cells #[.map (some B)] 123)).cell? ⟨w.heap.size, 0, none⟩ = some (.map (some B)) := by rw [cell_of_row _ _ _ _ _ (0, 0) (heap_alloc_new w _)]; rfl
      have hb0 : Below w.heap.size w (w.alloc (.cells #[.map (some B)] 123)) := (Below.refl _ _).alloc (Nat.le_refl _) _
      have C1 : Hid (∀ W, Below (w.alloc (.cells #[.map (some B)] 123)).heap.size (w.alloc (.cells #[.map (some B)] 123)) W → Calls Tryd.prog 135 #[.int .i64 (j : Nat), .pointer (some ⟨w.heap.size, 0, none⟩)] W fun r w' => r = .returned (.bool (f j).isSome) ∧ Cls W w') :=
        Lib.hid (fun W hW => waits_calls j w.heap.size B c m f W ((HM.out.later hb0).later hW) (by rw [hW.cell (p := ⟨w.heap.size, 0, none⟩) (by simp)]; exact hbx) (by omega))
      rcases HR.out j (by omega) with hf | ⟨hf, hsl, hsat⟩
      · have hG2 : Hid (goodF sl tb f j = false) := Lib.hid (by rw [hG.out, hf]; rfl)
        rw [hf] at C1
        clear hbx hb0 hG hf
        go_wp2_with (go_at_call 135; ((with_reducible refine (Cls.call (C1.out _ x.below)).mono ?_); rintro r _ ⟨rfl, y, rfl⟩))
        go_roundw
        case rel => exact ⟨j + 1, by omega, by go_num, by rw [HE.out, hS.out, idx_go hG2.out], y, rfl⟩
        case measure => simp [intOf]; omega
      · have hsB : ∀ W, Below (w.alloc (.cells #[.map (some B)] 123)).heap.size (w.alloc (.cells #[.map (some B)] 123)) W → Calls Tryd.prog 131 #[.slice (s j).a (s j).len (s j).cap, .func (.func 135) #[] #[.pointer (some ⟨w.heap.size, 0, none⟩)]] W fun r w' => r = .returned (.bool (decide (0 ≤ idx (fun k => (f (tgN sl tb j k)).isSome) 0 (tb j).fs.len))) ∧ Cls W w' := fun W hW => by
          have := containsW_calls (s j) (tgN sl tb j) w.heap.size B c m f W ((HM.out.later hb0).later hW) (by rw [hW.cell (p := ⟨w.heap.size, 0, none⟩) (by simp)]; exact hbx) (Nat.lt_of_lt_of_le (by simp) hW.size) ((hsat.later hb0).later hW) (fun i hi => HL.out j i (by omega) (by omega))
          rw [hsl] at this
          rw [hsl]
          exact this
        have C2 := Lib.hid hsB
        have hG2 : Hid (goodF sl tb f j = !decide (0 ≤ idx (fun k => (f (tgN sl tb j k)).isSome) 0 (tb j).fs.len)) := Lib.hid (by rw [hG.out, hf]; rfl)
        have HK : Hid (∀ W, Below w.heap.size w W → (Instr.lookup 123 (.map (some B)) (.int .i64 (j : Nat)) false).run Tryd.prog W = .ok (.slice (s j).a (s j).len (s j).cap) W) := Lib.hid (fun W hW => by
          have := (HM.out.later hW).look (j := j) (by omega)
          rw [hf] at this
          exact this)
        rw [hf] at C1
        clear hbx hb0 hG hf hsl hsat hsB
        generalize s j = sj at C2 HK
        obtain ⟨ja, jn, jc⟩ := sj
        cases hbb : decide (0 ≤ idx (fun k => (f (tgN sl tb j k)).isSome) 0 (tb j).fs.len)
        all_goals
          rw [hbb] at C2 hG2
          clear hbb
          go_wp2_with (first | (go_at_call 135; ((with_reducible refine (Cls.call (C1.out _ x.below)).mono ?_); rintro r _ ⟨rfl, y, rfl⟩; have hk := HK.out y.val (by repeat first | with_reducible exact Below.refl _ _ | with_reducible refine Below.setCell ?_ (by first | omega | (simp; done) | (simp; omega)) _ | with_reducible refine Below.alloc ?_ (by first | omega | (simp; done) | (simp; omega)) _ | with_reducible refine Below.drew ?_ | with_reducible refine Ext.on _ ?_ (by first | omega | (simp; done) | (simp; omega))))) | (go_at_call 131; ((with_reducible refine (Cls.call (C2.out _ y.below)).mono ?_); rintro r _ ⟨rfl, z, rfl⟩)))
        · go_ret2
          have e : idx (goodF sl tb f) 0 sn = (j : Nat) := by rw [HE.out, hS.out, idx_stop hG2.out]
          have e2 : at0 (j : Nat) = ((j : Nat) : Int) := if_neg (by omega)
          have e3 : decide ((0 : Int) ≤ (j : Nat)) = true := by simp
          rw [e, e2, e3]
          refine ⟨rfl, Cls.of ?_⟩
          repeat first | with_reducible exact Below.refl _ _ | with_reducible refine Below.setCell ?_ (by first | omega | (simp; done) | (simp; omega)) _ | with_reducible refine Below.alloc ?_ (by first | omega | (simp; done) | (simp; omega)) _ | with_reducible refine Below.drew ?_ | with_reducible refine Ext.on _ ?_ (by first | omega | (simp; done) | (simp; omega))
        · go_roundw
          case rel => exact ⟨j + 1, by omega, by go_num, by rw [HE.out, hS.out, idx_go hG2.out], z, rfl⟩
          case measure => simp [intOf]; omega
    · have hz : Hid (sn - j = 0) := Lib.hid (by omega)
      go_wp2_with fail
      go_ret2
      have e : idx (goodF sl tb f) 0 sn = -1 := by rw [HE.out, hz.out]; rfl
      rw [e]
      refine ⟨rfl, Cls.of ?_⟩
      repeat first | with_reducible exact Below.refl _ _ | with_reducible refine Below.setCell ?_ (by first | omega | (simp; done) | (simp; omega)) _ | with_reducible refine Below.alloc ?_ (by first | omega | (simp; done) | (simp; omega)) _ | with_reducible refine Below.drew ?_ | with_reducible refine Ext.on _ ?_ (by first | omega | (simp; done) | (simp; omega))
end Go.Proofs.YtpddkljedhghkaaDoor
set_option linter.unusedVariables false
namespace Go.Proofs.YtpddkljedhghkaaDoor
open Go Go.RowKit Go.Deep
theorem SlAt.tp {T k : Nat} {w w' : World} {s : Sl} {c : Nat → List Value} (h : SlAt w k s c) (hb : Tp T w w') (hT : ∀ b off, s.a = some ⟨b, off, none⟩ → b ≠ T) : SlAt w' k s c := by
  refine ⟨h.1, h.2.1, h.2.2.1, fun i hi => ?_⟩
  obtain ⟨b, off, ha, hlt, hc⟩ := h.2.2.2 i hi
  exact ⟨b, off, ha, Nat.lt_of_lt_of_le hlt hb.size, fun j hj => by rw [hb.cell _ hlt (hT b off ha)]; exact hc j hj⟩
theorem Tp.turn {T : Nat} {a w w' : World} (h : Tp T a w) (hg : w.grownBy w' (some T)) : Tp T a w' :=
  ⟨hg.os.trans h.os, hg.tape.trans h.tape, hg.output.trans h.output, Nat.le_trans h.size hg.size, fun k hk hT => (hg.block k (Nat.lt_of_lt_of_le hk h.size) (fun e => hT (Option.some.inj e))).trans (h.block k hk hT)⟩
theorem own_turn {T : Nat} {w w' : World} {base size n : Nat} {e : TypeId} {v : Value} {xs : List Value} (h : w.ownsRow base e size v n xs) (hg : w.grownBy w' (some T)) (hT : ∀ k, v.ownBlock = some k → k ≠ T) : w'.ownsRow base e size v n xs := by
  refine ⟨h.1, h.2.imp id ?_⟩
  rintro ⟨g, cap, cur, hv, hg', hh, rest⟩
  exact ⟨g, cap, cur, hv, hg', (hg.block g (Array.getElem?_eq_some_iff.1 hh).1 (fun e => hT g (by rw [hv]; rfl) (Option.some.inj e))).trans hh, rest⟩
/-- A row is not a map. -/
theorem own_not_map {w : World} {base size n B c m : Nat} {e : TypeId} {v : Value} {xs : List Value} {f : Nat → Option Value} (h : w.ownsRow base e size v n xs) (hm : MapIs w B c m f) : ∀ k, v.ownBlock = some k → k ≠ B := by
  rintro k hk rfl
  obtain ⟨D, ⟨es, clock, hb, _⟩, _⟩ := hm
  rcases h.2 with ⟨rfl, _⟩ | ⟨g, cap, cur, rfl, _, hh, _⟩
  · simp [Value.ownBlock] at hk
  · simp [Value.ownBlock] at hk
    subst hk
    rw [hb] at hh
    cases hh
theorem sl_not_map {w : World} {B c m : Nat} {s : Sl} {g : Nat → Int} {f : Nat → Option Value} (h : SlAt w 1 s (intC g)) (hl : 0 < s.len) (hm : MapIs w B c m f) : ∀ b off, s.a = some ⟨b, off, none⟩ → b ≠ B := by
  rintro b off ha rfl
  obtain ⟨D, ⟨es, clock, hb, _⟩, _⟩ := hm
  obtain ⟨b', o', ha', _, hc⟩ := h.2.2.2 0 hl
  rw [ha] at ha'
  simp only [Option.some.injEq, Addr.mk.injEq, and_true] at ha'
  obtain ⟨rfl, rfl⟩ := ha'
  have := hc 0 (by omega)
  simp [World.cell?, hb, intC] at this
theorem SlAt.turn {w w' : World} {B c m : Nat} {s : Sl} {g : Nat → Int} {f : Nat → Option Value} (h : SlAt w 1 s (intC g)) (hm : MapIs w B c m f) (ht : Tp B w w') : SlAt w' 1 s (intC g) := by
  by_cases hl : 0 < s.len
  · exact h.tp ht (sl_not_map h hl hm)
  · exact ⟨h.1, h.2.1, h.2.2.1, fun i hi => absurd hi (by omega)⟩
theorem RowsAt.turn {sl : Sl} {tb : Nat → Tb} {f f' : Nat → Option Value} {s : Nat → Sl} {w w' : World} {B c m : Nat} (h : RowsAt sl tb f s w) (hm : MapIs w B c m f) (ht : Tp B w w') (hf : ∀ j, j < sl.len → f' j = f j ∨ f' j = none) : RowsAt sl tb f' s w' := fun j hj => by
  rcases hf j hj with e | e
  · rw [e]
    exact (h j hj).imp id fun ⟨h1, h2, h3⟩ => ⟨h1, h2, h3.turn hm ht⟩
  · exact .inl e
end Go.Proofs.YtpddkljedhghkaaDoor
set_option linter.unusedVariables false
namespace Go.Proofs.YtpddkljedhghkaaDoor
open Go Go.RowKit Go.Deep
theorem infoI_z : (Tryd.prog.info? 3).map (fun i => (i.zero, i.size, i.bytes)) = some (some (.int .i64 0), 1, 8) := by kernel_rfl
theorem int_one_z (n : Int) : ∀ u ∈ [Value.int .i64 n], u.oneCell' = true := by
  intro u h
  simp only [List.mem_cons, List.not_mem_nil, or_false] at h
  rcases h with rfl; rfl
theorem cells_new_z {b : Nat} (w : World) (l : List Value) (t : TypeId) (hb : b = w.heap.size) : ∀ j u, l[j]? = some u → (w.alloc (.cells l.toArray t)).cell? ((⟨b, 0, none⟩ : Addr).add j) = some u := by
  subst hb
  intro j u h
  have hadd : (⟨w.heap.size, 0, none⟩ : Addr).add j = ⟨w.heap.size, j, none⟩ := by unfold Addr.add; split <;> simp_all
  rw [hadd, cell_of_row _ _ _ l.toArray t (0, 0) (heap_alloc_new w _)]
  simpa using h
theorem own_later_z {w w' : World} {base size n : Nat} {e : TypeId} {v : Value} {xs : List Value} (h : w.ownsRow base e size v n xs) (hb : Below w.heap.size w w') : w'.ownsRow base e size v n xs := by
  refine ⟨h.1, h.2.imp id ?_⟩
  rintro ⟨g, cap, cur, hv, hg, hh, rest⟩
  exact ⟨g, cap, cur, hv, hg, (hb.block g (Array.getElem?_eq_some_iff.1 hh).1).trans hh, rest⟩
def flatN (l : List Nat) : List Value := l.map fun n => .int .i64 (n : Nat)
theorem flatN_go (l : List Nat) (n : Nat) : flatN (l ++ [n]) = flatN l ++ [.int .i64 (n : Nat)] := by simp [flatN]
theorem sl_ofN {w : World} {base n : Nat} {v : Value} {l : List Nat} (h : w.ownsRow base 3 1 v n (flatN l)) (hl : l.length = n) : ∃ s : Sl, v = s.v ∧ s.len = n ∧ SlAt w 1 s (intC fun i => ((l.getD i 0 : Nat) : Int)) := by
  subst hl
  rcases h.2 with ⟨rfl, h0⟩ | ⟨g, cap, cur, rfl, hb, hh, hn, hc, hr, ht⟩
  · exact ⟨Sl.z, rfl, h0.symm, ⟨Nat.le_refl _, Nat.zero_le _, fun _ => ⟨rfl, rfl⟩, fun i hi => absurd hi (by simp [Sl.z])⟩⟩
  · refine ⟨⟨some ⟨g, 0, none⟩, l.length, cap⟩, rfl, rfl, ⟨hn, hc, (fun h => by cases h), fun i hi => ⟨g, 0, rfl, (Array.getElem?_eq_some_iff.1 hh).1, fun j hj => ?_⟩⟩⟩
    have hcell := World.ownsRow.cells h (g := g) rfl
    have hadd : ∀ j, (⟨g, 0, none⟩ : Addr).add j = ⟨g, 0 + j, none⟩ := fun j => by unfold Addr.add; split <;> simp_all
    have c0 := hcell i (.int .i64 ((l.getD i 0 : Nat) : Int)) (by
      have hi' : i < l.length := hi
      simp [flatN, List.getD, hi'])
    rw [hadd] at c0
    obtain rfl : j = 0 := by omega
    rw [Nat.mul_one, Nat.add_zero, c0]; rfl
theorem SlAt.congr_z {w : World} {s : Sl} {g g' : Nat → Int} (h : SlAt w 1 s (intC g)) (hg : ∀ i, i < s.len → g i = g' i) : SlAt w 1 s (intC g') := by
  refine ⟨h.1, h.2.1, h.2.2.1, fun i hi => ?_⟩
  obtain ⟨b, off, ha, hlt, hc⟩ := h.2.2.2 i hi
  exact ⟨b, off, ha, hlt, fun j hj => by rw [hc j hj]; simp only [intC, hg i hi]⟩
end Go.Proofs.YtpddkljedhghkaaDoor
set_option linter.unusedVariables false
namespace Go.Proofs.YtpddkljedhghkaaDoor
open Go Go.RowKit Go.Deep
theorem keyE_ok {t : Tb} (h : keyE t = 0) : keyB t.cs.len t.prim t.ps.len = true ∧ (∀ i, i < t.us.len → keyB t.cs.len (t.uqn i) (t.uq i).len = true) ∧ ∀ i, i < t.fs.len → keyB t.cs.len (t.fkn i) (t.fk i).len = true := by
  unfold keyE at h
  split at h
  · rename_i h1
    split at h
    · cases h
    · split at h
      · cases h
      · split at h
        · cases h
        · rename_i h2 h3 h4
          have h5 := (idx_none (p := uqP t) t.us.len 0).1 (by omega)
          have h6 := (idx_none (p := fkP t) t.fs.len 0).1 (by omega)
          refine ⟨h1, fun i hi => ?_, fun i hi => ?_⟩
          · have := h5 i (Nat.zero_le _) (by omega)
            unfold uqP at this
            simpa using this
          · have := h6 i (Nat.zero_le _) (by omega)
            unfold fkP at this
            simpa using this
  · cases h
/-- What is wrong with the k-th foreign key of table i. -/
def tgtE1 (sl : Sl) (tb : Nat → Tb) (i k : Nat) : Int :=
  if tgtB sl tb (i : Nat) (k : Nat) = true then (if fksB (tb i) (tb (tgN sl tb i k)) ((tb i).fkn k) (tb (tgN sl tb i k)).prim ((tb i).fk k).len (tb (tgN sl tb i k)).ps.len = true then 0 else 6) else 11
theorem tgtE1_is (sl : Sl) (tb : Nat → Tb) (i k : Nat) : (tgtB sl tb (i : Nat) (k : Nat) = false → tgtE1 sl tb i k = 11) ∧ (tgtB sl tb (i : Nat) (k : Nat) = true → fksB (tb i) (tb (tgN sl tb i k)) ((tb i).fkn k) (tb (tgN sl tb i k)).prim ((tb i).fk k).len (tb (tgN sl tb i k)).ps.len = true → tgtE1 sl tb i k = 0) ∧
    (tgtB sl tb (i : Nat) (k : Nat) = true → fksB (tb i) (tb (tgN sl tb i k)) ((tb i).fkn k) (tb (tgN sl tb i k)).prim ((tb i).fk k).len (tb (tgN sl tb i k)).ps.len = false → tgtE1 sl tb i k = 6) := by
  unfold tgtE1
  refine ⟨fun h => ?_, fun h h' => ?_, fun h h' => ?_⟩
  · rw [if_neg (by rw [h]; exact Bool.false_ne_true)]
  · rw [if_pos h, if_pos h']
  · rw [if_pos h, if_neg (by rw [h']; exact Bool.false_ne_true)]
def tgtE0 (sl : Sl) (tb : Nat → Tb) (i : Nat) : Int := fstE (tgtE1 sl tb i) 0 (tb i).fs.len
def tgtE (sl : Sl) (tb : Nat → Tb) : Int := fstE (tgtE0 sl tb) 0 sl.len
theorem tgtE_all {sl : Sl} {tb : Nat → Tb} (h : tgtE sl tb = 0) : allT sl tb := by
  intro i hi k hk
  have h1 := fstE_of _ _ h i (Nat.zero_le _) (by omega)
  have h2 := fstE_of _ _ h1 k (Nat.zero_le _) (by omega)
  cases hb : tgtB sl tb (i : Nat) (k : Nat)
  · rw [(tgtE1_is sl tb i k).1 hb] at h2
    cases h2
  · rfl
set_option maxHeartbeats 8000000 in
set_option maxRecDepth 20000 in
theorem targetError_calls (sl : Sl) (tb : Nat → Tb) (w : World) (h : TabsAt w sl tb) (hk : ∀ i, i < sl.len → keyE (tb i) = 0) :
    Calls Tryd.prog 56 #[.agg #[.slice sl.a sl.len sl.cap]] w fun r w' => r = .returned (.int .i64 (tgtE sl tb)) ∧ Cls w w' := by
  have hle := h.1.1
  have hmax := h.1.2.1
  unfold maxLen at hmax
  have HTG : Hid (∀ (j k : Nat) (W : World), Below w.heap.size w W → Calls Tryd.prog 101 #[.agg #[.slice sl.a sl.len sl.cap], .int .i64 (j : Nat), .int .i64 (k : Nat)] W fun r w' => r = .returned (.tuple #[.int .i64 (tgN sl tb j k : Nat), .bool (tgtB sl tb (j : Nat) (k : Nat))]) ∧ Cls W w') := Lib.hid fun j k W hW => by
    have h1 := Target_calls sl tb (j : Nat) (k : Nat) W (h.later hW)
    rw [tgt_nat] at h1
    exact h1
  have HFT : Hid (∀ j k : Nat, j < sl.len → k < (tb j).fs.len → tgtB sl tb (j : Nat) (k : Nat) = true → ∀ W, Below w.heap.size w W → Calls Tryd.prog 102 #[.agg #[.string (tb j).name, .slice (tb j).cs.a (tb j).cs.len (tb j).cs.cap, .slice (tb j).ps.a (tb j).ps.len (tb j).ps.cap, .slice (tb j).us.a (tb j).us.len (tb j).us.cap, .slice (tb j).fs.a (tb j).fs.len (tb j).fs.cap, .slice (tb j).ks.a (tb j).ks.len (tb j).ks.cap], .slice ((tb j).fk k).a ((tb j).fk k).len ((tb j).fk k).cap, .agg #[.string (tb (tgN sl tb j k)).name, .slice (tb (tgN sl tb j k)).cs.a (tb (tgN sl tb j k)).cs.len (tb (tgN sl tb j k)).cs.cap, .slice (tb (tgN sl tb j k)).ps.a (tb (tgN sl tb j k)).ps.len (tb (tgN sl tb j k)).ps.cap, .slice (tb (tgN sl tb j k)).us.a (tb (tgN sl tb j k)).us.len (tb (tgN sl tb j k)).us.cap, .slice (tb (tgN sl tb j k)).fs.a (tb (tgN sl tb j k)).fs.len (tb (tgN sl tb j k)).fs.cap, .slice (tb (tgN sl tb j k)).ks.a (tb (tgN sl tb j k)).ks.len (tb (tgN sl tb j k)).ks.cap]] W fun r w' => r = .returned (.bool (fksB (tb j) (tb (tgN sl tb j k)) ((tb j).fkn k) (tb (tgN sl tb j k)).prim ((tb j).fk k).len (tb (tgN sl tb j k)).ps.len)) ∧ Cls W w') := Lib.hid fun j k hj hkk hb W hW =>
    fits_calls (tb j) (tb (tgN sl tb j k)) ((tb j).fk k) ((tb j).fkn k) W ((h.2 j hj).later hW) ((h.2 _ (tg_lt hb)).later hW) (((h.2 j hj).fkn k hkk).1.later hW) (keyB_in ((keyE_ok (hk j hj)).2.2 k hkk)) (keyB_in (keyE_ok (hk _ (tg_lt hb))).1)
  have HRW : Hid (∀ j, j < sl.len → ∃ b off, sl.a = some ⟨b, off, none⟩ ∧ b < w.heap.size ∧ ∀ i, i < 6 → w.cell? ⟨b, off + j * 6 + i, none⟩ = ((tb j).cells)[i]?) := Lib.hid h.1.2.2.2
  have HFK : Hid (∀ j, j < sl.len → (tb j).fs.len ≤ (tb j).fs.cap ∧ (tb j).fs.cap ≤ 2 ^ 63 - 1 ∧ ∀ k, k < (tb j).fs.len → ∃ b off, (tb j).fs.a = some ⟨b, off, none⟩ ∧ b < w.heap.size ∧ ∀ i, i < 2 → w.cell? ⟨b, off + k * 2 + i, none⟩ = ([((tb j).fk k).v, .string ((tb j).fkt k)] : List Value)[i]?) := Lib.hid fun j hj => ⟨(h.2 j hj).fks.1, (h.2 j hj).fks.2.1, (h.2 j hj).fks.2.2.2⟩
  have HLT : Hid (∀ j k : Nat, tgtB sl tb (j : Nat) (k : Nat) = true → tgN sl tb j k < sl.len) := Lib.hid fun j k => tg_lt
  have HIS := Lib.hid (tgtE1_is sl tb)
  have HX : Hid (tgtE sl tb = fstE (tgtE0 sl tb) 0 sl.len) := Lib.hid rfl
  have H0 : Hid (∀ j, tgtE0 sl tb j = fstE (tgtE1 sl tb j) 0 (tb j).fs.len) := Lib.hid fun j => rfl
  clear h hk
  generalize tgtE sl tb = ee at HX ⊢
  generalize tgtE0 sl tb = e0 at HX H0
  generalize tgtE1 sl tb = e1 at H0 HIS
  generalize tgtB sl tb = tB at HTG HFT HLT HIS
  generalize tgN sl tb = tN at HTG HFT HLT HIS
  obtain ⟨sa, sn, sc⟩ := sl
  simp only at hle hmax HTG HFT HRW HFK HLT HX ⊢
  go_enter Tryd.func56, Tryd.ntmps56
  go_wp2_with fail
  have hbl : (w.alloc (.cells #[.slice sa sn sc] 45)).heap[w.heap.size]? = some (.cells #[.slice sa sn sc] 45) := heap_alloc_new w _
  have HBL := Lib.hid hbl
  have HB0 : Hid (Below w.heap.size w (w.alloc (.cells #[.slice sa sn sc] 45))) := Lib.hid (by repeat first | with_reducible exact Below.refl _ _ | with_reducible refine Below.setCell ?_ (by first | omega | (simp; done) | (simp; omega)) _ | with_reducible refine Below.alloc ?_ (by first | omega | (simp; done) | (simp; omega)) _ | with_reducible refine Below.drew ?_ | with_reducible refine Ext.on _ ?_ (by first | omega | (simp; done) | (simp; omega)))
  have h0s : (w.alloc (.cells #[.slice sa sn sc] 45)).heap.size = w.heap.size + 1 := by simp
  clear hbl
  generalize (w.alloc (.cells #[.slice sa sn sc] 45)) = W0 at *
  go_loopw [12] (fun i wr => ∃ j : Nat, j ≤ sn ∧ i = .int .i64 j ∧ fstE e0 0 sn = fstE e0 j (sn - j) ∧ Cls W0 wr) (fun i _ => sn - (intOf i).toNat)
  case atStart => exact ⟨0, Nat.zero_le _, rfl, rfl, Cls.of (Below.refl _ _)⟩
  case round =>
    obtain ⟨j, hj, rfl, he, x, rfl⟩ := hrel
    have HE := Lib.hid he
    clear he
    have xs := x.size
    have HBX : Hid (Below w.heap.size w x.val) := Lib.hid (HB0.out.trans (x.below.mono (by omega)))
    have HX0 := Lib.hid x.below
    have hbx0 : w.heap.size < x.val.heap.size := by omega
    have HSX := Lib.hid ((x.below.block _ (by omega)).trans HBL.out)
    generalize x.val = X at *
    obtain ⟨b0, _, k1⟩ := one_z HSX.out
    by_cases hltj : j < sn
    · obtain ⟨b, off, ha, hb2, hc⟩ := HRW.out j hltj
      subst ha
      have q0 := hc 0 (by omega)
      have q1 := hc 1 (by omega)
      have q2 := hc 2 (by omega)
      have q3 := hc 3 (by omega)
      have q4 := hc 4 (by omega)
      have q5 := hc 5 (by omega)
      simp only [Tb.cells, Sl.v, List.getElem?_cons_zero, List.getElem?_cons_succ, Nat.add_zero] at q0 q1 q2 q3 q4 q5
      rw [← HBX.out.cell (p := ⟨b, _, none⟩) hb2] at q0 q1 q2 q3 q4 q5
      have hb3 : b < X.heap.size := by omega
      have hS : Hid (sn - j = (sn - (j + 1)) + 1) := Lib.hid (by omega)
      have HT0 := Lib.hid (H0.out j)
      obtain ⟨hfl, hfm, hfk⟩ := HFK.out j hltj
      have HFKJ := Lib.hid hfk
      have HFTJ := Lib.hid (fun k => HFT.out j k hltj)
      have HTGJ := Lib.hid (HTG.out j)
      have HISJ := Lib.hid (HIS.out j)
      have HLTJ := Lib.hid (HLT.out j)
      clear hc hfk
      go_wp2_with fail
      have HB1 : Hid ((X.alloc (.cells #[.string (tb j).name, .slice (tb j).cs.a (tb j).cs.len (tb j).cs.cap, .slice (tb j).ps.a (tb j).ps.len (tb j).ps.cap, .slice (tb j).us.a (tb j).us.len (tb j).us.cap, .slice (tb j).fs.a (tb j).fs.len (tb j).fs.cap, .slice (tb j).ks.a (tb j).ks.len (tb j).ks.cap] 53)).heap[X.heap.size]? = some (.cells #[.string (tb j).name, .slice (tb j).cs.a (tb j).cs.len (tb j).cs.cap, .slice (tb j).ps.a (tb j).ps.len (tb j).ps.cap, .slice (tb j).us.a (tb j).us.len (tb j).us.cap, .slice (tb j).fs.a (tb j).fs.len (tb j).fs.cap, .slice (tb j).ks.a (tb j).ks.len (tb j).ks.cap] 53)) := Lib.hid (heap_alloc_new X _)
      have HS1 : Hid ((X.alloc (.cells #[.string (tb j).name, .slice (tb j).cs.a (tb j).cs.len (tb j).cs.cap, .slice (tb j).ps.a (tb j).ps.len (tb j).ps.cap, .slice (tb j).us.a (tb j).us.len (tb j).us.cap, .slice (tb j).fs.a (tb j).fs.len (tb j).fs.cap, .slice (tb j).ks.a (tb j).ks.len (tb j).ks.cap] 53)).heap[w.heap.size]? = some (.cells #[.slice (some ⟨b, off, none⟩) sn sc] 45)) := Lib.hid ((Below.heap_alloc X _ w.heap.size hbx0).trans HSX.out)
      have HBW : Hid (Below w.heap.size w (X.alloc (.cells #[.string (tb j).name, .slice (tb j).cs.a (tb j).cs.len (tb j).cs.cap, .slice (tb j).ps.a (tb j).ps.len (tb j).ps.cap, .slice (tb j).us.a (tb j).us.len (tb j).us.cap, .slice (tb j).fs.a (tb j).fs.len (tb j).fs.cap, .slice (tb j).ks.a (tb j).ks.len (tb j).ks.cap] 53))) := Lib.hid (HBX.out.trans (((Below.refl _ _).alloc (Nat.le_refl _) _).mono HBX.out.size))
      have HW0 : Hid (Below W0.heap.size W0 (X.alloc (.cells #[.string (tb j).name, .slice (tb j).cs.a (tb j).cs.len (tb j).cs.cap, .slice (tb j).ps.a (tb j).ps.len (tb j).ps.cap, .slice (tb j).us.a (tb j).us.len (tb j).us.cap, .slice (tb j).fs.a (tb j).fs.len (tb j).fs.cap, .slice (tb j).ks.a (tb j).ks.len (tb j).ks.cap] 53))) := Lib.hid (HX0.out.trans (((Below.refl _ _).alloc (Nat.le_refl _) _).mono HX0.out.size))
      have hs1 : (X.alloc (.cells #[.string (tb j).name, .slice (tb j).cs.a (tb j).cs.len (tb j).cs.cap, .slice (tb j).ps.a (tb j).ps.len (tb j).ps.cap, .slice (tb j).us.a (tb j).us.len (tb j).us.cap, .slice (tb j).fs.a (tb j).fs.len (tb j).fs.cap, .slice (tb j).ks.a (tb j).ks.len (tb j).ks.cap] 53)).heap.size = X.heap.size + 1 := by simp
      clear q0 q1 q2 q3 q4 q5 k1 HSX HX0 HBX
      generalize (X.alloc (.cells #[.string (tb j).name, .slice (tb j).cs.a (tb j).cs.len (tb j).cs.cap, .slice (tb j).ps.a (tb j).ps.len (tb j).ps.cap, .slice (tb j).us.a (tb j).us.len (tb j).us.cap, .slice (tb j).fs.a (tb j).fs.len (tb j).fs.cap, .slice (tb j).ks.a (tb j).ks.len (tb j).ks.cap] 53)) = W1 at *
      generalize X.heap.size = bt at *
      have n0 : w.heap.size < W1.heap.size := by omega
      have n1 : bt < W1.heap.size := by omega
      have n2 : b < W1.heap.size := by omega
      have HS1Z := Lib.hid hs1
      have H0SZ := Lib.hid h0s
      clear hs1 h0s
      obtain ⟨_, _, k1⟩ := one_z HS1.out
      obtain ⟨_, _, _, _, _, _, _, m0, m1, m2, m3, m4, m5⟩ := six_z HB1.out
      generalize hfs : (tb j).fs = fs at *
      obtain ⟨fa, fn, fc⟩ := fs
      simp only at hfl hfm HT0 HFKJ HFTJ m4 ⊢
      clear hfs
      go_loopw [20] (fun i wr => ∃ k : Nat, k ≤ fn ∧ i = .int .i64 k ∧ fstE (e1 j) 0 fn = fstE (e1 j) k (fn - k) ∧ Cls W1 wr) (fun i _ => fn - (intOf i).toNat)
      case atStart => exact ⟨0, Nat.zero_le _, rfl, rfl, Cls.of (Below.refl _ _)⟩
      case round =>
        obtain ⟨k, hk, rfl, hf, x1, rfl⟩ := hrel
        have HF1 := Lib.hid hf
        clear hf
        have x1s := x1.size
        obtain ⟨g1, g2, g3, g4, g5⟩ := x1.lts n0
        obtain ⟨g6, g7, g8, g9, g10⟩ := x1.lts n1
        obtain ⟨g11, g12, g13, g14, g15⟩ := x1.lts n2
        have HBY : Hid (Below w.heap.size w x1.val) := Lib.hid (HBW.out.trans (x1.below.mono (by omega)))
        by_cases hltk : k < fn
        · obtain ⟨b', off', ha', hb2', hc'⟩ := HFKJ.out k hltk
          subst ha'
          have r0 := hc' 0 (by omega)
          have r1 := hc' 1 (by omega)
          simp only [List.getElem?_cons_zero, List.getElem?_cons_succ, Nat.add_zero, Sl.v] at r0 r1
          rw [← HBW.out.cell (p := ⟨b', _, none⟩) hb2'] at r0 r1
          have n3 : b' < W1.heap.size := by omega
          obtain ⟨g16, g17, g18, g19, g20⟩ := x1.lts n3
          have hS1 : Hid (fn - k = (fn - (k + 1)) + 1) := Lib.hid (by omega)
          have C1 := Lib.hid (HTGJ.out k)
          have hP := Lib.hid (HISJ.out k)
          have C2 := Lib.hid (fun hb => HFTJ.out k hltk hb)
          have hL := Lib.hid (HLTJ.out k)
          clear hc'
          have HC : Hid (∀ y : Ext (x1.val.alloc (.cells #[.slice ((tb j).fk k).a ((tb j).fk k).len ((tb j).fk k).cap, .string ((tb j).fkt k)] 57)), Below w.heap.size w y.val ∧ Below W1.heap.size W1 y.val) := Lib.hid fun y => ⟨y.on (HBY.out.trans (((Below.refl _ _).alloc (Nat.le_refl _) _).mono HBY.out.size)) (by simp; omega), y.on (x1.below.trans (((Below.refl _ _).alloc (Nat.le_refl _) _).mono x1s)) (by simp; omega)⟩
          generalize (tb j).fk k = u at r0 C2 hP HC
          obtain ⟨u1, u2, u3⟩ := u
          simp only at r0 C2 hP HC
          generalize (tb j).fkt k = ut at r1 HC
          cases hbb : tB (j : Nat) (k : Nat)
          · have hP3 := Lib.hid (hP.out.1 hbb)
            rw [hbb] at C1
            clear C2 hL hP hbb
            go_wp2_with (go_at_call 101; ((with_reducible refine (C1.out _ (HBY.out.trans (((Below.refl _ _).alloc (Nat.le_refl _) _).mono HBY.out.size))).mono ?_); rintro r _ ⟨rfl, y, rfl⟩))
            go_ret
            exact ⟨ret_int (by rw [HX.out, HE.out, hS.out, fstE_stop (by rw [HT0.out, HF1.out, hS1.out, fstE_stop (by rw [hP3.out]; decide), hP3.out]; decide), HT0.out, HF1.out, hS1.out, fstE_stop (by rw [hP3.out]; decide), hP3.out]), Cls.of (HC.out y).1⟩
          · have hg := hL.out hbb
            have C3 := Lib.hid (C2.out hbb)
            have hP3 := Lib.hid (And.intro (hP.out.2.1 hbb) (hP.out.2.2 hbb))
            obtain ⟨b2, off2, ha2, hb22, hc2⟩ := HRW.out (tN j k) hg
            simp only [Option.some.injEq, Addr.mk.injEq, and_true] at ha2
            obtain ⟨rfl, rfl⟩ := ha2
            have q0 := hc2 0 (by omega)
            have q1 := hc2 1 (by omega)
            have q2 := hc2 2 (by omega)
            have q3 := hc2 3 (by omega)
            have q4 := hc2 4 (by omega)
            have q5 := hc2 5 (by omega)
            simp only [Tb.cells, Sl.v, List.getElem?_cons_zero, List.getElem?_cons_succ, Nat.add_zero] at q0 q1 q2 q3 q4 q5
            rw [← HBW.out.cell (p := ⟨b, _, none⟩) hb2] at q0 q1 q2 q3 q4 q5
            rw [hbb] at C1
            clear C2 hL hP hbb hc2
            generalize fksB (tb j) (tb (tN j k)) ((tb j).fkn k) (tb (tN j k)).prim u2 (tb (tN j k)).ps.len = fb at C3 hP3
            generalize tb (tN j k) = o at C3 q0 q1 q2 q3 q4 q5
            generalize tN j k = g at C1 hg q0 q1 q2 q3 q4 q5
            cases fb
            all_goals
              go_wp2_with (go_at_call 101; ((with_reducible refine (C1.out _ (HBY.out.trans (((Below.refl _ _).alloc (Nat.le_refl _) _).mono HBY.out.size))).mono ?_); rintro r _ ⟨rfl, y, rfl⟩))
              refine wp_region_on (by kernel_rfl) (by kernel_rfl) ?_
              repeat (go_big_quiet_step ((go_at_call 102; exact Cls.call (C3.out _ (HC.out _).1))))
              refine wpQuiet_nil ?_
              rintro _ ⟨z, rfl⟩
              go_wp2_with fail
            · have hP4 := Lib.hid (hP3.out.2 (by trivial))
              go_ret
              exact ⟨ret_int (by rw [HX.out, HE.out, hS.out, fstE_stop (by rw [HT0.out, HF1.out, hS1.out, fstE_stop (by rw [hP4.out]; decide), hP4.out]; decide), HT0.out, HF1.out, hS1.out, fstE_stop (by rw [hP4.out]; decide), hP4.out]), Cls.of (HC.out z).1⟩
            · have hP4 := Lib.hid (hP3.out.1 (by trivial))
              go_roundw
              case rel => exact ⟨k + 1, by omega, by go_num, by rw [HF1.out, hS1.out, fstE_go hP4.out], Cls.of (HC.out z).2⟩
              case measure => simp [intOf]; omega
        · have hz : Hid (fn - k = 0) := Lib.hid (by omega)
          have hP4 : Hid (e0 j = 0) := Lib.hid (by rw [HT0.out, HF1.out, hz.out]; rfl)
          go_wp2_with fail
          go_roundw
          case rel => exact ⟨j + 1, by omega, by go_num, by rw [HE.out, hS.out, fstE_go hP4.out], Cls.of (HW0.out.trans (x1.below.mono HW0.out.size))⟩
          case measure => simp [intOf]; omega
    · have hz : Hid (sn - j = 0) := Lib.hid (by omega)
      go_wp2_with fail
      go_ret
      exact ⟨ret_int (by rw [HX.out, HE.out, hz.out]; rfl), Cls.of HBX.out⟩
end Go.Proofs.YtpddkljedhghkaaDoor
