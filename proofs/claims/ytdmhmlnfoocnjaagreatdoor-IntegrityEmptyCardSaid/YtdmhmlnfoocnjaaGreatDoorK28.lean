/-
  Keys.
-/
import Derived.Test.YtdmhmlnfoocnjaaGreatDoorK13
import Derived.Test.YtdmhmlnfoocnjaaGreatDoorK21
set_option linter.unusedVariables false
namespace Go.Proofs.YtdmhmlnfoocnjaaGreatDoor
open Go Go.RowKit Go.Deep
set_option maxHeartbeats 8000000 in
set_option maxRecDepth 20000 in
theorem listed_calls (t : Tb) (s : Sl) (f : Nat → Int) (w : World) (hs : SlAt w 1 s (intC f)) (hc0 : t.cs.len ≤ maxLen) :
    Calls Tryz.prog 65 #[.agg #[.string t.name, .slice t.cs.a t.cs.len t.cs.cap, .slice t.ps.a t.ps.len t.ps.cap, .slice t.us.a t.us.len t.us.cap, .slice t.fs.a t.fs.len t.fs.cap, .slice t.ks.a t.ks.len t.ks.cap], .slice s.a s.len s.cap] w fun r w' => r = .returned (.bool (keyB t.cs.len f s.len)) ∧ Cls w w' := by
  have hle := hs.1
  have hmax := hs.2.1
  unfold maxLen at hmax hc0
  have H := Lib.hid hs
  clear hs
  obtain ⟨tn, ⟨ca, cn, cc⟩, tf, tps, tprim, tus, tuq, tuqn, tfs, tfk, tfkn, tfkt, tks, tch⟩ := t
  obtain ⟨sa, sn, sc⟩ := s
  simp only at hle hmax H hc0
  go_enter Tryz.func65, Tryz.ntmps65
  go_wp2_with fail
  have hbl : (w.alloc (.cells #[.string tn, .slice ca cn cc, .slice tps.a tps.len tps.cap, .slice tus.a tus.len tus.cap, .slice tfs.a tfs.len tfs.cap, .slice tks.a tks.len tks.cap] 55)).heap[w.heap.size]? = some (.cells #[.string tn, .slice ca cn cc, .slice tps.a tps.len tps.cap, .slice tus.a tus.len tus.cap, .slice tfs.a tfs.len tfs.cap, .slice tks.a tks.len tks.cap] 55) := heap_alloc_new w _
  have HBL := Lib.hid hbl
  have HB0 : Hid (Below w.heap.size w (w.alloc (.cells #[.string tn, .slice ca cn cc, .slice tps.a tps.len tps.cap, .slice tus.a tus.len tus.cap, .slice tfs.a tfs.len tfs.cap, .slice tks.a tks.len tks.cap] 55))) := Lib.hid (by repeat first|with_reducible exact Below.refl _ _|with_reducible refine Below.setCell ?_ (by first|omega|(simp;done)|(simp;omega)) _|with_reducible refine Below.alloc ?_ (by first|omega|(simp;done)|(simp;omega)) _|with_reducible refine Below.drew ?_|with_reducible refine Ext.on _ ?_ (by first|omega|(simp;done)|(simp;omega)))
  have h0s : w.heap.size < (w.alloc (.cells #[.string tn, .slice ca cn cc, .slice tps.a tps.len tps.cap, .slice tus.a tus.len tus.cap, .slice tfs.a tfs.len tfs.cap, .slice tks.a tks.len tks.cap] 55)).heap.size := by simp
  clear hbl
  generalize (w.alloc (.cells #[.string tn, .slice ca cn cc, .slice tps.a tps.len tps.cap, .slice tus.a tus.len tus.cap, .slice tfs.a tfs.len tfs.cap, .slice tks.a tks.len tks.cap] 55)) = W0 at *
  obtain ⟨_, _, _, _, _, _, _, _, k1, _, _, _, _⟩ := six_z HBL.out
  go_loopw [5] (fun i wr => ∃ j : Nat, j ≤ sn ∧ i = .int .i64 j ∧ idx (badK cn f) 0 sn = idx (badK cn f) j (sn - j) ∧ Cls W0 wr) (fun i _ => sn - (intOf i).toNat)
  case atStart => exact ⟨0, Nat.zero_le _, rfl, rfl, Cls.of (Below.refl _ _)⟩
  case round =>
    obtain ⟨j, hj, rfl, he, x, rfl⟩ := hrel
    have HE := Lib.hid he
    clear he
    have xs := x.size
    by_cases hltj : j < sn
    · obtain ⟨b, off, ha, hb2, hc⟩ := H.out.2.2.2 j hltj
      simp only at ha
      subst ha
      have q0 := hc 0 (by omega)
      simp only [intC, List.getElem?_cons_zero, Nat.add_zero, Nat.mul_one] at q0
      rw [← HB0.out.cell (p := ⟨b, _, none⟩) hb2] at q0
      have hb3 : b < W0.heap.size := by omega
      have hS : Hid (sn - j = (sn - (j + 1)) + 1) := Lib.hid (by omega)
      have hP : Hid (badK cn f j = (decide (f j < 0) || decide ((cn : Int) ≤ f j) || decide (0 ≤ idx (sameP f (f j)) 0 j))) := Lib.hid rfl
      have HCK : Hid (∀ k, k < j → W0.cell? ⟨b, off + k, none⟩ = some (.int .i64 (f k)) ∧ ∀ v, sameP f v k = (v == f k)) := Lib.hid fun k hk => by
        obtain ⟨b', off', ha', hb', hc'⟩ := H.out.2.2.2 k (by show k < sn; omega)
        have ha2 : some (⟨b, off, none⟩ : Addr) = some ⟨b', off', none⟩ := ha'
        simp only [Option.some.injEq, Addr.mk.injEq, and_true] at ha2
        obtain ⟨rfl, rfl⟩ := ha2
        have r0 := hc' 0 (by omega)
        simp only [intC, List.getElem?_cons_zero, Nat.add_zero, Nat.mul_one] at r0
        rw [← HB0.out.cell (p := ⟨b, _, none⟩) hb2] at r0
        exact ⟨r0, fun v => rfl⟩
      clear hc
      generalize f j = u at q0 hP
      by_cases h1 : u < 0
      · have d1 : decide (u < 0) = true := by simp; omega
        have hQ : Hid (badK cn f j = true) := Lib.hid (by rw [hP.out, d1]; simp)
        go_wp2_with fail
        refine wp_region_on (by kernel_rfl) (by kernel_rfl) ?_
        repeat (go_big_quiet_step (fail))
        refine wpQuiet_nil ?_
        rintro _ ⟨y, rfl⟩
        go_wp2_with fail
        go_ret
        exact ⟨ret_bool (by show false = keyB cn f sn; rw [keyB_no (j := j) (by rw [HE.out, hS.out, idx_stop hQ.out])]), Cls.of (HB0.out.trans (y.below.mono (by omega)))⟩
      · have d1 : decide (u < 0) = false := by simp; omega
        by_cases h2 : (cn : Int) ≤ u
        · have d2 : decide ((cn : Int) ≤ u) = true := by simp; omega
          have hQ : Hid (badK cn f j = true) := Lib.hid (by rw [hP.out, d2]; simp)
          go_wp2_with fail
          refine wp_region_on (by kernel_rfl) (by kernel_rfl) ?_
          repeat (go_big_quiet_step (fail))
          refine wpQuiet_nil ?_
          rintro _ ⟨y, rfl⟩
          go_wp2_with fail
          go_ret
          exact ⟨ret_bool (by show false = keyB cn f sn; rw [keyB_no (j := j) (by rw [HE.out, hS.out, idx_stop hQ.out])]), Cls.of (HB0.out.trans (y.below.mono (by omega)))⟩
        · have d2 : decide ((cn : Int) ≤ u) = false := by simp; omega
          have hQ : Hid (badK cn f j = decide (0 ≤ idx (sameP f u) 0 j)) := Lib.hid (by rw [hP.out, d1, d2]; simp)
          go_wp2_with fail
          refine wp_region_on (by kernel_rfl) (by kernel_rfl) ?_
          repeat (go_big_quiet_step (fail))
          refine wpQuiet_nil ?_
          rintro _ ⟨y, rfl⟩
          go_wp2_with fail
          go_loopw [6] (fun i wr => ∃ k : Nat, k ≤ j ∧ i = .int .i64 k ∧ idx (sameP f u) 0 j = idx (sameP f u) k (j - k) ∧ Cls W0 wr) (fun i _ => j - (intOf i).toNat)
          case atStart => exact ⟨0, Nat.zero_le _, rfl, rfl, y, rfl⟩
          case round =>
            clear y
            obtain ⟨k, hk, rfl, hi, z, rfl⟩ := hrel
            have HI := Lib.hid hi
            clear hi
            have zs := z.size
            by_cases hltk : k < j
            · obtain ⟨r0, hsp⟩ := HCK.out k hltk
              have HSP := Lib.hid (hsp u)
              have hS2 : Hid (j - k = (j - (k + 1)) + 1) := Lib.hid (by omega)
              clear hsp
              generalize f k = v at r0 HSP
              by_cases huv : u = v
              · have hT : Hid (sameP f u k = true) := Lib.hid (by rw [HSP.out, huv]; simp)
                have hb : Hid (badK cn f j = true) := Lib.hid (by rw [hQ.out, HI.out, hS2.out, idx_stop hT.out]; simp)
                have b1 : (v == u) = true := by simp [huv]
                clear huv
                go_wp2_with fail
                refine wp_region_on (by kernel_rfl) (by kernel_rfl) ?_
                repeat (go_big_quiet_step (fail))
                refine wpQuiet_nil ?_
                rintro _ ⟨y, rfl⟩
                go_wp2_with fail
                go_ret
                exact ⟨ret_bool (by show false = keyB cn f sn; rw [keyB_no (j := j) (by rw [HE.out, hS.out, idx_stop hb.out])]), Cls.of (HB0.out.trans (y.below.mono (by omega)))⟩
              · have hT : Hid (sameP f u k = false) := Lib.hid (by rw [HSP.out]; simp [huv])
                have b1 : (v == u) = false := by simp; exact fun h => huv h.symm
                clear huv
                go_wp2_with fail
                refine wp_region_on (by kernel_rfl) (by kernel_rfl) ?_
                repeat (go_big_quiet_step (fail))
                refine wpQuiet_nil ?_
                rintro _ ⟨y, rfl⟩
                go_wp2_with fail
                go_roundw
                case rel => exact ⟨k + 1, by omega, by go_num, by rw [HI.out, hS2.out, idx_go hT.out], y, rfl⟩
                case measure => simp [intOf]; omega
            · have hz : Hid (j - k = 0) := Lib.hid (by omega)
              have hb : Hid (badK cn f j = false) := Lib.hid (by rw [hQ.out, HI.out, hz.out]; rfl)
              go_wp2_with fail
              go_roundw
              case rel => exact ⟨j + 1, by omega, by go_num, by rw [HE.out, hS.out, idx_go hb.out], z, rfl⟩
              case measure => simp [intOf]; omega
    · have hz : Hid (sn - j = 0) := Lib.hid (by omega)
      go_wp2_with fail
      go_ret
      exact ⟨ret_bool (by show decide (0 < sn) = keyB cn f sn; rw [keyB_end (by rw [HE.out, hz.out]; rfl)]), Cls.of (HB0.out.trans (x.below.mono (by omega)))⟩
end Go.Proofs.YtdmhmlnfoocnjaaGreatDoor
set_option linter.unusedVariables false
namespace Go.Proofs.YtdmhmlnfoocnjaaGreatDoor
open Go Go.RowKit Go.Deep
def isT (t : Int) : Bool := t == 1 || t == 2 || t == 3
set_option maxHeartbeats 1000000 in
theorem isTypeG_calls (t : Int) (w : World) :
    Calls Tryz.prog 164 #[.int .i64 t] w fun r w' => r = .returned (.bool (isT t)) ∧ Cls w w' := by
  by_cases h1 : t = 1
  · subst h1
    go_enter Tryz.func164, Tryz.ntmps164
    go_wp2_with fail
    go_ret
    refine ⟨ret_bool rfl, Cls.of ?_⟩
    repeat first|with_reducible exact Below.refl _ _|with_reducible refine Below.setCell ?_ (by first|omega|(simp;done)|(simp;omega)) _|with_reducible refine Below.alloc ?_ (by first|omega|(simp;done)|(simp;omega)) _|with_reducible refine Below.drew ?_|with_reducible refine Ext.on _ ?_ (by first|omega|(simp;done)|(simp;omega))
  have b1 : (t == 1) = false := by simp [h1]
  by_cases h2 : t = 2
  · subst h2
    go_enter Tryz.func164, Tryz.ntmps164
    go_wp2_with fail
    go_ret
    refine ⟨ret_bool rfl, Cls.of ?_⟩
    repeat first|with_reducible exact Below.refl _ _|with_reducible refine Below.setCell ?_ (by first|omega|(simp;done)|(simp;omega)) _|with_reducible refine Below.alloc ?_ (by first|omega|(simp;done)|(simp;omega)) _|with_reducible refine Below.drew ?_|with_reducible refine Ext.on _ ?_ (by first|omega|(simp;done)|(simp;omega))
  have b2 : (t == 2) = false := by simp [h2]
  by_cases h3 : t = 3
  · subst h3
    go_enter Tryz.func164, Tryz.ntmps164
    go_wp2_with fail
    go_ret
    refine ⟨ret_bool rfl, Cls.of ?_⟩
    repeat first|with_reducible exact Below.refl _ _|with_reducible refine Below.setCell ?_ (by first|omega|(simp;done)|(simp;omega)) _|with_reducible refine Below.alloc ?_ (by first|omega|(simp;done)|(simp;omega)) _|with_reducible refine Below.drew ?_|with_reducible refine Ext.on _ ?_ (by first|omega|(simp;done)|(simp;omega))
  have b3 : (t == 3) = false := by simp [h3]
  go_enter Tryz.func164, Tryz.ntmps164
  go_wp2_with fail
  go_ret
  refine ⟨ret_bool (by unfold isT; rw [b1, b2, b3]; rfl), Cls.of ?_⟩
  repeat first|with_reducible exact Below.refl _ _|with_reducible refine Below.setCell ?_ (by first|omega|(simp;done)|(simp;omega)) _|with_reducible refine Below.alloc ?_ (by first|omega|(simp;done)|(simp;omega)) _|with_reducible refine Below.drew ?_|with_reducible refine Ext.on _ ?_ (by first|omega|(simp;done)|(simp;omega))
def colT (l : List Int) (c : Int) : Int × Int := if c < 0 then (0, 3) else if (l.length : Int) ≤ c then (0, 3) else if isT (l.getD c.toNat 0) = true then (l.getD c.toNat 0, 0) else (0, 4)
set_option maxHeartbeats 2000000 in
theorem columnTypeG_calls (l : List Int) (c : Int) (a : Option Addr) (len cap : Nat) (w : World) (h : NumIn w a len cap l) :
    Calls Tryz.prog 154 #[.slice a len cap, .int .i64 c] w fun r w' => r = .returned (.tuple #[.int .i64 (colT l c).1, .int .i64 (colT l c).2]) ∧ Cls w w' := by
  obtain ⟨hl, hle, hmax, hh⟩ := h
  unfold maxLen at hmax
  by_cases h1 : c < 0
  · have e : colT l c = (0, 3) := if_pos h1
    rw [e]
    have d1 : decide (c < 0) = true := by simp; omega
    go_enter Tryz.func154, Tryz.ntmps154
    go_wp2_with fail
    go_ret2
    refine ⟨rfl, Cls.of ?_⟩
    repeat first|with_reducible exact Below.refl _ _|with_reducible refine Below.setCell ?_ (by first|omega|(simp;done)|(simp;omega)) _|with_reducible refine Below.alloc ?_ (by first|omega|(simp;done)|(simp;omega)) _|with_reducible refine Below.drew ?_|with_reducible refine Ext.on _ ?_ (by first|omega|(simp;done)|(simp;omega))
  have d1 : decide (c < 0) = false := by simp; omega
  by_cases h2 : (len : Int) ≤ c
  · have e : colT l c = (0, 3) := by unfold colT; rw [if_neg h1, if_pos (by omega)]
    rw [e]
    have d2 : decide ((len : Int) ≤ c) = true := by simp; omega
    go_enter Tryz.func154, Tryz.ntmps154
    go_wp2_with fail
    go_ret2
    refine ⟨rfl, Cls.of ?_⟩
    repeat first|with_reducible exact Below.refl _ _|with_reducible refine Below.setCell ?_ (by first|omega|(simp;done)|(simp;omega)) _|with_reducible refine Below.alloc ?_ (by first|omega|(simp;done)|(simp;omega)) _|with_reducible refine Below.drew ?_|with_reducible refine Ext.on _ ?_ (by first|omega|(simp;done)|(simp;omega))
  have d2 : decide ((len : Int) ≤ c) = false := by simp; omega
  obtain ⟨n, rfl⟩ : ∃ n : Nat, c = n := ⟨c.toNat, by omega⟩
  obtain ⟨b, off, rfl, hb, hc⟩ := hh.resolve_left (by omega)
  have q := hc n (by omega)
  have e : colT l (n : Nat) = if isT (l.getD n 0) = true then (l.getD n 0, 0) else (0, 4) := by unfold colT; rw [if_neg h1, if_neg (by omega), Int.toNat_natCast]
  rw [e]
  have C1 := Lib.hid (fun W => isTypeG_calls (l.getD n 0) W)
  clear hc hh e
  generalize l.getD n 0 = t at q C1 ⊢
  generalize isT t = bt at C1 ⊢
  cases bt
  all_goals
    go_enter Tryz.func154, Tryz.ntmps154
    go_wp2_with (go_at_call 164; ((with_reducible refine (C1.out _).mono ?_); rintro r _ ⟨rfl, y, rfl⟩))
    go_ret2
    refine ⟨rfl, Cls.of ?_⟩
    repeat first|with_reducible exact Below.refl _ _|with_reducible refine Below.setCell ?_ (by first|omega|(simp;done)|(simp;omega)) _|with_reducible refine Below.alloc ?_ (by first|omega|(simp;done)|(simp;omega)) _|with_reducible refine Below.drew ?_|with_reducible refine Ext.on _ ?_ (by first|omega|(simp;done)|(simp;omega))
def onlyB (ty num : Int) (text : ByteArray) (col f : Int) : Bool := (ty == 0 || f == 0) && (num == 0 || f == 1) && (text.toList == [] || f == 2) && (col == 0 || f == 3)
set_option maxHeartbeats 8000000 in
set_option maxRecDepth 20000 in
theorem hasOnlyG_calls (op ty num : Int) (text : ByteArray) (col : Int) (a : Option Addr) (len cap : Nat) (f : Int) (w : World) :
    Calls Tryz.prog 152 #[.agg #[.int .i64 op, .int .i64 ty, .int .i64 num, .string text, .int .i64 col, .slice a len cap], .int .i64 f] w fun r w' => r = .returned (.bool (onlyB ty num text col f)) ∧ Cls w w' := by
  go_enter Tryz.func152, Tryz.ntmps152
  go_wp2_with fail
  all_goals
    go_ret
    refine ⟨ret_bool (by simp [onlyB, *]), Cls.of ?_⟩
    repeat first|with_reducible exact Below.refl _ _|with_reducible refine Below.setCell ?_ (by first|omega|(simp;done)|(simp;omega)) _|with_reducible refine Below.alloc ?_ (by first|omega|(simp;done)|(simp;omega)) _|with_reducible refine Below.drew ?_|with_reducible refine Ext.on _ ?_ (by first|omega|(simp;done)|(simp;omega))
def permB (op ty num : Int) (text : ByteArray) : Bool := if op = 1 then isT ty else if op = 2 ∨ op = 3 ∨ op = 4 then vB (litV op num text).k (litV op num text).n (litV op num text).s else true
set_option maxHeartbeats 2000000 in
theorem permittedG_calls (e : Ex) (a : Option Addr) (len cap : Nat) (w : World) (hs : e.text.size ≤ maxLen) :
    Calls Tryz.prog 153 #[.agg #[.int .i64 e.op, .int .i64 e.ty, .int .i64 e.num, .string e.text, .int .i64 e.col, .slice a len cap]] w fun r w' => r = .returned (.bool (permB e.op e.ty e.num e.text)) ∧ Cls w w' := by
  by_cases h1 : e.op = 1
  · have b1 : (e.op == 1) = true := by simp [h1]
    have hp : permB e.op e.ty e.num e.text = isT e.ty := if_pos h1
    rw [hp]
    have C1 := Lib.hid (fun W => isTypeG_calls e.ty W)
    generalize isT e.ty = bt at C1 ⊢
    clear h1 hp
    go_enter Tryz.func153, Tryz.ntmps153
    go_wp2_with (go_at_call 164; ((with_reducible refine (C1.out _).mono ?_); rintro r _ ⟨rfl, y, rfl⟩))
    go_ret
    refine ⟨ret_bool rfl, Cls.of ?_⟩
    repeat first|with_reducible exact Below.refl _ _|with_reducible refine Below.setCell ?_ (by first|omega|(simp;done)|(simp;omega)) _|with_reducible refine Below.alloc ?_ (by first|omega|(simp;done)|(simp;omega)) _|with_reducible refine Below.drew ?_|with_reducible refine Ext.on _ ?_ (by first|omega|(simp;done)|(simp;omega))
  have b1 : (e.op == 1) = false := by simp [h1]
  by_cases h : e.op = 2 ∨ e.op = 3 ∨ e.op = 4
  · have hp : permB e.op e.ty e.num e.text = vB (litV e.op e.num e.text).k (litV e.op e.num e.text).n (litV e.op e.num e.text).s := by unfold permB; rw [if_neg h1, if_pos h]
    rw [hp]
    have hsz : (litV e.op e.num e.text).s.size ≤ maxLen := by
      unfold litV
      split
      · exact Nat.zero_le _
      · split
        · exact Nat.zero_le _
        · split
          · exact hs
          · exact Nat.zero_le _
    have CL : Hid (∀ W, Calls Tryz.prog 120 #[.agg #[.int .i64 e.op, .int .i64 e.ty, .int .i64 e.num, .string e.text, .int .i64 e.col, .slice a len cap]] W fun r w' => r = .returned (.agg #[.int .i64 (litV e.op e.num e.text).k, .int .i64 (litV e.op e.num e.text).n, .string (litV e.op e.num e.text).s]) ∧ Cls W w') := Lib.hid (fun W => literal_calls e a len cap W (by omega))
    have CV : Hid (∀ W, Calls Tryz.prog 136 #[.agg #[.int .i64 (litV e.op e.num e.text).k, .int .i64 (litV e.op e.num e.text).n, .string (litV e.op e.num e.text).s]] W fun r w' => r = .returned (.bool (vB (litV e.op e.num e.text).k (litV e.op e.num e.text).n (litV e.op e.num e.text).s)) ∧ Cls W w') := Lib.hid (fun W => Valid_calls _ _ _ W hsz)
    clear hsz hs hp h1
    generalize vB (litV e.op e.num e.text).k (litV e.op e.num e.text).n (litV e.op e.num e.text).s = bv at CV ⊢
    generalize litV e.op e.num e.text = v at CL CV
    rcases h with h | h | h
    · have b2 : (e.op == 2) = true := by simp [h]
      clear h
      go_enter Tryz.func153, Tryz.ntmps153
      go_wp2_with (first | (go_at_call 120; ((with_reducible refine (CL.out _).mono ?_); rintro r _ ⟨rfl, y, rfl⟩; have ys := y.size; simp at ys)) | (go_at_call 136; ((with_reducible refine (CV.out _).mono ?_); rintro r _ ⟨rfl, z, rfl⟩)))
      go_ret
      refine ⟨ret_bool rfl, Cls.of ?_⟩
      repeat first|with_reducible exact Below.refl _ _|with_reducible refine Below.setCell ?_ (by first|omega|(simp;done)|(simp;omega)) _|with_reducible refine Below.alloc ?_ (by first|omega|(simp;done)|(simp;omega)) _|with_reducible refine Below.drew ?_|with_reducible refine Ext.on _ ?_ (by first|omega|(simp;done)|(simp;omega))
    · have b2 : (e.op == 2) = false := by simp [h]
      have b3 : (e.op == 3) = true := by simp [h]
      clear h
      go_enter Tryz.func153, Tryz.ntmps153
      go_wp2_with (first | (go_at_call 120; ((with_reducible refine (CL.out _).mono ?_); rintro r _ ⟨rfl, y, rfl⟩; have ys := y.size; simp at ys)) | (go_at_call 136; ((with_reducible refine (CV.out _).mono ?_); rintro r _ ⟨rfl, z, rfl⟩)))
      go_ret
      refine ⟨ret_bool rfl, Cls.of ?_⟩
      repeat first|with_reducible exact Below.refl _ _|with_reducible refine Below.setCell ?_ (by first|omega|(simp;done)|(simp;omega)) _|with_reducible refine Below.alloc ?_ (by first|omega|(simp;done)|(simp;omega)) _|with_reducible refine Below.drew ?_|with_reducible refine Ext.on _ ?_ (by first|omega|(simp;done)|(simp;omega))
    · have b2 : (e.op == 2) = false := by simp [h]
      have b3 : (e.op == 3) = false := by simp [h]
      have b4 : (e.op == 4) = true := by simp [h]
      clear h
      go_enter Tryz.func153, Tryz.ntmps153
      go_wp2_with (first | (go_at_call 120; ((with_reducible refine (CL.out _).mono ?_); rintro r _ ⟨rfl, y, rfl⟩; have ys := y.size; simp at ys)) | (go_at_call 136; ((with_reducible refine (CV.out _).mono ?_); rintro r _ ⟨rfl, z, rfl⟩)))
      go_ret
      refine ⟨ret_bool rfl, Cls.of ?_⟩
      repeat first|with_reducible exact Below.refl _ _|with_reducible refine Below.setCell ?_ (by first|omega|(simp;done)|(simp;omega)) _|with_reducible refine Below.alloc ?_ (by first|omega|(simp;done)|(simp;omega)) _|with_reducible refine Below.drew ?_|with_reducible refine Ext.on _ ?_ (by first|omega|(simp;done)|(simp;omega))
  · have hp : permB e.op e.ty e.num e.text = true := by unfold permB; rw [if_neg h1, if_neg h]
    rw [hp]
    have b2 : (e.op == 2) = false := by simp; omega
    have b3 : (e.op == 3) = false := by simp; omega
    have b4 : (e.op == 4) = false := by simp; omega
    clear hp h1 h
    go_enter Tryz.func153, Tryz.ntmps153
    go_wp2_with fail
    go_ret
    refine ⟨ret_bool rfl, Cls.of ?_⟩
    repeat first|with_reducible exact Below.refl _ _|with_reducible refine Below.setCell ?_ (by first|omega|(simp;done)|(simp;omega)) _|with_reducible refine Below.alloc ?_ (by first|omega|(simp;done)|(simp;omega)) _|with_reducible refine Below.drew ?_|with_reducible refine Ext.on _ ?_ (by first|omega|(simp;done)|(simp;omega))
def resL (o : ORow) : Nat → Int → List Int → Option Int
  | _, one, [] => some one
  | j, one, t :: r =>
    if t = (if wantAt o j = -1 then (if wantAt o j = -1 ∧ one = 0 then t else one) else wantAt o j) then resL o (j + 1) (if wantAt o j = -1 ∧ one = 0 then t else one) r else none
def resP (o : ORow) (ks : List Int) : Int × Bool := match resL o 0 0 ks with
  | none => (0, false)
  | some one => (if o.gives = -1 then one else o.gives, true)
theorem resP_none {o : ORow} {ks : List Int} (h : resL o 0 0 ks = none) : resP o ks = (0, false) := by unfold resP; rw [h]
theorem resP_some {o : ORow} {ks : List Int} {one : Int} (h : resL o 0 0 ks = some one) : resP o ks = (if o.gives = -1 then one else o.gives, true) := by unfold resP; rw [h]
theorem dropI {l : List Int} {j : Nat} (h : j < l.length) : l.drop j = l.getD j 0 :: l.drop (j + 1) := by
  rw [List.drop_eq_getElem_cons h]; simp [List.getD, h]
theorem resL_is (o : ORow) (j : Nat) (one t : Int) (r : List Int) : (wantAt o j = -1 → one = 0 → resL o j one (t :: r) = resL o (j + 1) t r) ∧ (wantAt o j = -1 → one ≠ 0 → t = one → resL o j one (t :: r) = resL o (j + 1) one r) ∧ (wantAt o j = -1 → one ≠ 0 → t ≠ one → resL o j one (t :: r) = none) ∧
    (wantAt o j ≠ -1 → t = wantAt o j → resL o j one (t :: r) = resL o (j + 1) one r) ∧ (wantAt o j ≠ -1 → t ≠ wantAt o j → resL o j one (t :: r) = none) := by
  refine ⟨fun h1 h2 => ?_, fun h1 h2 h3 => ?_, fun h1 h2 h3 => ?_, fun h1 h3 => ?_, fun h1 h3 => ?_⟩
  · simp only [resL, h1, h2, and_self, if_true]
  · simp only [resL, h1, h2, h3, and_false, if_false, if_true]
  · simp only [resL, h1, h2, h3, and_false, if_false, if_true]
  · simp only [resL, h1, h3, false_and, if_false, if_true]
  · simp only [resL, h1, h3, false_and, if_false]
set_option maxHeartbeats 4000000 in
set_option maxRecDepth 20000 in
theorem resultG_calls (o : ORow) (ks : List Int) (a : Option Addr) (len cap : Nat) (w : World) (h : NumIn w a len cap ks) :
    Calls Tryz.prog 155 #[.agg #[.string ⟨o.word.toArray⟩, .int .i64 o.has, .int .i64 o.first, .int .i64 o.others, .int .i64 o.gives], .slice a len cap] w fun r w' => r = .returned (.tuple #[.int .i64 (resP o ks).1, .bool (resP o ks).2]) ∧ Cls w w' := by
  obtain ⟨hl, hle, hmax, hh⟩ := h
  unfold maxLen at hmax
  have HH := Lib.hid hh
  have HL := Lib.hid hl
  have HN : Hid (resL o 0 0 ks = none → resP o ks = (0, false)) := Lib.hid resP_none
  have HS : Hid (∀ one, resL o 0 0 ks = some one → resP o ks = (if o.gives = -1 then one else o.gives, true)) := Lib.hid fun one h => resP_some h
  have HI := Lib.hid (resL_is o)
  have HE : Hid (∀ j one, resL o j one [] = some one) := Lib.hid fun j one => by rw [resL]
  have HW : Hid (∀ j, wantAt o j = if j = 0 then o.first else o.others) := Lib.hid (fun j => rfl)
  clear hh hl
  generalize resP o ks = rp at *
  generalize resL o = rl at *
  generalize wantAt o = want at *
  obtain ⟨word, has, first, others, gives⟩ := o
  simp only at *
  go_enter Tryz.func155, Tryz.ntmps155
  go_wp2_with fail
  go_loopw [6, 12] (fun u i wr => ∃ (j : Nat) (one : Int), j ≤ len ∧ u = .int .i64 one ∧ i = .int .i64 j ∧ rl 0 0 ks = rl j one (ks.drop j) ∧ Cls (w.alloc (.cells #[.string ⟨word.toArray⟩, .int .i64 has, .int .i64 first, .int .i64 others, .int .i64 gives] 155)) wr) (fun _ i _ => len - (intOf i).toNat)
  case atStart => exact ⟨0, 0, Nat.zero_le _, rfl, rfl, rfl, Cls.of (Below.refl _ _)⟩
  case round =>
    obtain ⟨j, one, hj, rfl, rfl, hr, x, rfl⟩ := hrel
    have HR := Lib.hid hr
    clear hr
    by_cases hlt : j < len
    · obtain ⟨b, off, rfl, hb, hc⟩ := HH.out.resolve_left (by omega)
      have hb1 : b < w.heap.size + 1 := by omega
      have q := hc j hlt
      have HD := Lib.hid (dropI (l := ks) (j := j) (by rw [HL.out]; exact hlt))
      have hwj := HW.out j
      have hI := Lib.hid (HI.out j one)
      clear hc HW
      generalize ks.getD j 0 = t at *
      generalize want j = wj at *
      by_cases hj0 : j = 0
      all_goals
        first | rw [if_pos hj0] at hwj | rw [if_neg hj0] at hwj
        first | (have bj : ((j : Int) == 0) = true := (by rw [hj0]; rfl)) | (have bj : ((j : Int) == 0) = false := (by simp [hj0]))
        clear hj0
        by_cases hw1 : wj = -1
        · by_cases ho0 : one = 0
          · have hN : rl 0 0 ks = rl (j + 1) t (ks.drop (j + 1)) := by rw [HR.out, HD.out]; exact (hI.out t _).1 hw1 ho0
            have HN2 := Lib.hid hN
            have b1 : (wj == -1) = true := by simp [hw1]
            have b2 : (one == 0) = true := by simp [ho0]
            rw [hwj] at b1
            clear hN hwj hw1 ho0
            go_wp2_with fail
            go_roundw
            case rel => exact ⟨j + 1, t, by omega, rfl, by go_num, HN2.out, x, rfl⟩
            case measure => simp [intOf]; omega
          · have b1 : (wj == -1) = true := by simp [hw1]
            have b2 : (one == 0) = false := by simp [ho0]
            rw [hwj] at b1
            by_cases ht : t = one
            · have hN : rl 0 0 ks = rl (j + 1) one (ks.drop (j + 1)) := by rw [HR.out, HD.out]; exact (hI.out t _).2.1 hw1 ho0 ht
              have HN2 := Lib.hid hN
              subst ht
              clear hN hwj hw1 ho0
              go_wp2_with fail
              go_roundw
              case rel => exact ⟨j + 1, t, by omega, rfl, by go_num, HN2.out, x, rfl⟩
              case measure => simp [intOf]; omega
            · have hN : rl 0 0 ks = none := by rw [HR.out, HD.out]; exact (hI.out t _).2.2.1 hw1 ho0 ht
              have HN2 := Lib.hid (HN.out hN)
              have b3 : (t == one) = false := by simp [ht]
              have b3' : (t != one) = true := by simp [ht]
              clear hN hwj hw1 ho0 ht
              go_wp2_with fail
              go_ret2
              rw [HN2.out]
              refine ⟨rfl, Cls.of ?_⟩
              repeat first|with_reducible exact Below.refl _ _|with_reducible refine Below.setCell ?_ (by first|omega|(simp;done)|(simp;omega)) _|with_reducible refine Below.alloc ?_ (by first|omega|(simp;done)|(simp;omega)) _|with_reducible refine Below.drew ?_|with_reducible refine Ext.on _ ?_ (by first|omega|(simp;done)|(simp;omega))
        · have b1 : (wj == -1) = false := by simp [hw1]
          by_cases ht : t = wj
          · have hN : rl 0 0 ks = rl (j + 1) one (ks.drop (j + 1)) := by rw [HR.out, HD.out]; exact (hI.out t _).2.2.2.1 hw1 ht
            have HN2 := Lib.hid hN
            rw [hwj] at b1
            rw [hwj] at ht
            subst ht
            clear hN hwj hw1
            go_wp2_with fail
            go_roundw
            case rel => exact ⟨j + 1, one, by omega, rfl, by go_num, HN2.out, x, rfl⟩
            case measure => simp [intOf]; omega
          · have hN : rl 0 0 ks = none := by rw [HR.out, HD.out]; exact (hI.out t _).2.2.2.2 hw1 ht
            have HN2 := Lib.hid (HN.out hN)
            have b3 : (t == wj) = false := by simp [ht]
            have b3' : (t != wj) = true := by simp [ht]
            rw [hwj] at b1 b3 b3'
            clear hN hwj hw1 ht
            go_wp2_with fail
            go_ret2
            rw [HN2.out]
            refine ⟨rfl, Cls.of ?_⟩
            repeat first|with_reducible exact Below.refl _ _|with_reducible refine Below.setCell ?_ (by first|omega|(simp;done)|(simp;omega)) _|with_reducible refine Below.alloc ?_ (by first|omega|(simp;done)|(simp;omega)) _|with_reducible refine Below.drew ?_|with_reducible refine Ext.on _ ?_ (by first|omega|(simp;done)|(simp;omega))
    · have hN : rl 0 0 ks = some one := by rw [HR.out, List.drop_of_length_le (by rw [HL.out]; omega), HE.out]
      have HN2 := Lib.hid (HS.out _ hN)
      clear hN
      by_cases hg : gives = -1
      · have b1 : (gives == -1) = true := by simp [hg]
        have HG := Lib.hid hg
        clear hg
        go_wp2_with fail
        go_ret2
        rw [HN2.out, if_pos HG.out]
        refine ⟨rfl, Cls.of ?_⟩
        repeat first|with_reducible exact Below.refl _ _|with_reducible refine Below.setCell ?_ (by first|omega|(simp;done)|(simp;omega)) _|with_reducible refine Below.alloc ?_ (by first|omega|(simp;done)|(simp;omega)) _|with_reducible refine Below.drew ?_|with_reducible refine Ext.on _ ?_ (by first|omega|(simp;done)|(simp;omega))
      · have b1 : (gives == -1) = false := by simp [hg]
        have HG := Lib.hid hg
        clear hg
        go_wp2_with fail
        go_ret2
        rw [HN2.out, if_neg HG.out]
        refine ⟨rfl, Cls.of ?_⟩
        repeat first|with_reducible exact Below.refl _ _|with_reducible refine Below.setCell ?_ (by first|omega|(simp;done)|(simp;omega)) _|with_reducible refine Below.alloc ?_ (by first|omega|(simp;done)|(simp;omega)) _|with_reducible refine Below.drew ?_|with_reducible refine Ext.on _ ?_ (by first|omega|(simp;done)|(simp;omega))
end Go.Proofs.YtdmhmlnfoocnjaaGreatDoor
