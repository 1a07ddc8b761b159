/-
  The reference's typed.
-/
import Derived.Test.YtdmhmlnfoocnjaaGreatDoorK32
set_option linter.unusedVariables false
namespace Go.Proofs.YtdmhmlnfoocnjaaGreatDoor
open Go Go.RowKit Go.Deep
theorem own_later3 {w w' : World} {base size n : Nat} {e : TypeId} {v : Value} {xs : List Value} (h : w.ownsRow base e size v n xs) (hb : Below w.heap.size w w') : w'.ownsRow base e size v n xs := own_later2 h hb
set_option maxHeartbeats 16000000 in
set_option maxRecDepth 20000 in
theorem typed_walk (e : Ex) (ks es : List Int) (tys : List Int) (ta : Option Addr) (tlen tcap : Nat) (a : Option Addr) (len cap : Nat) (ok : Nat → Prop) (w : World)
    (hty : NumIn w ta tlen tcap tys) (hk : Kids w ok a len cap e.kids) (hks : ks.length = len) (hes : es.length = len) (hl12 : len ≤ 1000000) (hs : e.text.size ≤ maxLen)
    (ih : ∀ j, j < len → ∀ (a' : Option Addr) (len' cap' : Nat) (W : World), NumIn W ta tlen tcap tys → Kids W ok a' len' cap' (e.kids.getD j Ex.z).kids →
      Calls Tryz.prog 100 #[.slice ta tlen tcap, .agg #[.int .i64 (e.kids.getD j Ex.z).op, .int .i64 (e.kids.getD j Ex.z).ty, .int .i64 (e.kids.getD j Ex.z).num, .string (e.kids.getD j Ex.z).text, .int .i64 (e.kids.getD j Ex.z).col, .slice a' len' cap']] W fun r w' => r = .returned (.tuple #[.int .i64 (ks.getD j 0), .int .i64 (es.getD j 0)]) ∧ Cls W w') :
    Calls Tryz.prog 100 #[.slice ta tlen tcap, .agg #[.int .i64 e.op, .int .i64 e.ty, .int .i64 e.num, .string e.text, .int .i64 e.col, .slice a len cap]] w fun r w' => r = .returned (.tuple #[.int .i64 (if fstI es = 0 then nodeR tys e.op e.ty e.num e.text e.col ks else (0, fstI es)).1, .int .i64 (if fstI es = 0 then nodeR tys e.op e.ty e.num e.text e.col ks else (0, fstI es)).2]) ∧ Cls w w' := by
  obtain ⟨i0, hi, hz0, hz1, hz2⟩ := info_parts infoI
  have hle := hk.le
  have hmax := hk.max
  unfold maxLen at hmax
  have htl := hty.1
  have HKS := Lib.hid hks
  have HES := Lib.hid hes
  have HK := Lib.hid hk
  have HI := Lib.hid ih
  have HY := Lib.hid hty
  have HT0 : Hid (fstI es = 0 → (if fstI es = 0 then nodeR tys e.op e.ty e.num e.text e.col ks else (0, fstI es)) = nodeR tys e.op e.ty e.num e.text e.col ks) := Lib.hid fun h => if_pos h
  have HT1 : Hid (fstI es ≠ 0 → (if fstI es = 0 then nodeR tys e.op e.ty e.num e.text e.col ks else (0, fstI es)) = (0, fstI es)) := Lib.hid fun h => if_neg h
  generalize (if fstI es = 0 then nodeR tys e.op e.ty e.num e.text e.col ks else (0, fstI es)) = rt at HT0 HT1 ⊢
  have HND : Hid (nodeR tys e.op e.ty e.num e.text e.col ks = if plainR e.op e.ty e.num e.text e.col = true then (if takesO e.op len = true then (if e.op = 5 ∧ (e.col < 0 ∨ (tlen : Int) ≤ e.col) then (0, 3) else if resR tys e.op.toNat e.ty e.col ks < 1 ∨ 3 < resR tys e.op.toNat e.ty e.col ks then (0, 4) else (resR tys e.op.toNat e.ty e.col ks, 0)) else (0, 9)) else (0, 1)) := Lib.hid (by unfold nodeR; rw [hks, htl])
  have CP : Hid (∀ W, Calls Tryz.prog 127 #[.agg #[.int .i64 e.op, .int .i64 e.ty, .int .i64 e.num, .string e.text, .int .i64 e.col, .slice a len cap]] W fun r w' => r = .returned (.bool (plainR e.op e.ty e.num e.text e.col)) ∧ Cls W w') := Lib.hid fun W => plain_calls e a len cap W hs
  have HOP : Hid (plainR e.op e.ty e.num e.text e.col = true → 1 ≤ e.op ∧ e.op < 29) := Lib.hid fun h => by
    by_cases ho : e.op < 1 ∨ 29 ≤ e.op
    · rw [plainR_no ho] at h
      cases h
    · omega
  have CK0 : Hid (1 ≤ e.op → e.op < 29 → ∀ W, Calls Tryz.prog 90 #[.int .i64 e.op, .int .i64 (len : Nat)] W fun r w' => r = .returned (.bool (takesO e.op len)) ∧ Cls W w') := Lib.hid fun h1 h2 W => rkids_calls e.op len W h1 h2
  have CR0 : Hid (1 ≤ e.op → e.op < 29 → takesO e.op len = true → (e.op = 5 → 0 ≤ e.col ∧ e.col < tlen) → ∀ (ka : Option Addr) (kc : Nat) W, Below w.heap.size w W → NumIn W ka len kc ks → Calls Tryz.prog 128 #[.slice ta tlen tcap, .agg #[.int .i64 e.op, .int .i64 e.ty, .int .i64 e.num, .string e.text, .int .i64 e.col, .slice a len cap], .slice ka len kc] W fun r w' => r = .returned (.int .i64 (resR tys e.op.toNat e.ty e.col ks)) ∧ Cls W w') := Lib.hid fun h1 h2 ht hc ka kc W hW hn => by
    obtain ⟨n, hn'⟩ : ∃ n : Nat, e.op = (n : Int) := ⟨e.op.toNat, by omega⟩
    have g1 : 1 ≤ n := by omega
    have g2 : n < 29 := by omega
    have e1 : e.op.toNat = n := by omega
    rw [e1]
    refine rresult_calls tys e n hn' g1 g2 ks ta tlen tcap a len cap ka len kc W (hty.later hW) hn ?_ (fun h5 => hc (by omega))
    rw [← takesO_H n g1 g2, ← hn']
    exact ht
  clear hty hk hks hes ih hs htl
  go_enter Tryz.func100, Tryz.ntmps100
  go_wp2_with fail
  go_loopw [6, 7] (fun u i wr => ∃ j : Nat, j ≤ len ∧ i = .int .i64 j ∧ (∀ i, i < j → es.getD i 0 = 0) ∧ wr.ownsRow (w.heap.size + 1) 3 1 u (ks.take j).length (flatI (ks.take j)) ∧ Cls (w.alloc (.cells #[.int .i64 e.op, .int .i64 e.ty, .int .i64 e.num, .string e.text, .int .i64 e.col, .slice a len cap] 64)) wr) (fun _ i _ => len - (intOf i).toNat)
  case atStart => exact ⟨0, Nat.zero_le _, rfl, fun i hi => absurd hi (Nat.not_lt_zero _), World.ownsRow_nil _ _ _ 1, Cls.of (Below.refl _ _)⟩
  case round =>
    obtain ⟨j, hj, rfl, hz, hown, x, rfl⟩ := hrel
    have HOW := Lib.hid hown
    have HZ := Lib.hid hz
    clear hown hz
    have xs := x.size
    simp at xs
    have HTL : Hid ((ks.take j).length = j) := Lib.hid (by rw [List.length_take, HKS.out]; omega)
    by_cases hlt : j < len
    · obtain ⟨a', len', cap', ⟨b, off, rfl, hb, hok, q0, q1, q2, q3, q4, q5⟩, hfine, hk'⟩ := HK.out.at_ hlt
      have hb1 : b < w.heap.size + 1 := by omega
      have C1 : Hid (∀ W, Below w.heap.size w W → Calls Tryz.prog 100 #[.slice ta tlen tcap, .agg #[.int .i64 (e.kids.getD j Ex.z).op, .int .i64 (e.kids.getD j Ex.z).ty, .int .i64 (e.kids.getD j Ex.z).num, .string (e.kids.getD j Ex.z).text, .int .i64 (e.kids.getD j Ex.z).col, .slice a' len' cap']] W fun r w' => r = .returned (.tuple #[.int .i64 (ks.getD j 0), .int .i64 (es.getD j 0)]) ∧ Cls W w') := Lib.hid (fun W hW => HI.out j hlt a' len' cap' W (HY.out.later hW) (hk'.later hW))
      have HTS := Lib.hid (take_snocI (l := ks) (j := j) (by rw [HKS.out]; exact hlt))
      have HST : Hid (es.getD j 0 ≠ 0 → fstI es = es.getD j 0) := Lib.hid fun h => fstI_stop es j HZ.out h
      have HZ1 : Hid (es.getD j 0 = 0 → ∀ i, i < j + 1 → es.getD i 0 = 0) := Lib.hid fun h i hi => by
        by_cases e : i = j
        · rw [e]; exact h
        · exact HZ.out i (by omega)
      clear hk' hfine hok
      generalize ks.getD j 0 = kj at C1 HTS
      generalize es.getD j 0 = ej0 at C1 HST HZ1
      generalize e.kids.getD j Ex.z = ej at *
      by_cases hej : ej0 = 0
      · have HZ2 := Lib.hid (HZ1.out hej)
        subst hej
        go_wp2_with (first | (go_at_call 100; ((with_reducible refine (C1.out _ ?_).mono ?_); (· (repeat first|with_reducible exact Below.refl _ _|with_reducible refine Below.setCell ?_ (by first|omega|(simp;done)|(simp;omega)) _|with_reducible refine Below.alloc ?_ (by first|omega|(simp;done)|(simp;omega)) _|with_reducible refine Below.drew ?_|with_reducible refine Ext.on _ ?_ (by first|omega|(simp;done)|(simp;omega)))); rintro r _ ⟨rfl, y, rfl⟩; have ys := y.size; (try simp at ys))) | (at_builtin; refine wpList_append_own_at _ rfl _ _ 22 rfl (w.heap.size + 1) 3 i0 (.int .i64 0) 1 8 Tryz.underlying22 hi hz0 hz1 hz2 rfl (by decide) _ (ks.take j).length (flatI (ks.take j)) rfl (own_later3 HOW.out (by repeat first|with_reducible exact Below.refl _ _|with_reducible refine Below.setCell ?_ (by first|omega|(simp;done)|(simp;omega)) _|with_reducible refine Below.alloc ?_ (by first|omega|(simp;done)|(simp;omega)) _|with_reducible refine Below.drew ?_|with_reducible refine Ext.on _ ?_ (by first|omega|(simp;done)|(simp;omega)))) ⟨y.val.heap.size, 0, none⟩ 1 1 [.int .i64 kj] rfl rfl (fun j u hu => by have h9 := cells_new' y.val [.int .i64 kj] 3 j u hu; simpa using h9) (int_one _) (by have := HTL.out; unfold maxLen; omega) (by have := HTL.out; omega) (by simp; omega) ?_; intro v3 w3 hown3 hg3 _ hat3; have HO3 := Lib.hid hown3; have HG := Lib.hid hg3; clear hown3 hg3 hat3))
        go_roundw
        case rel =>
          refine ⟨j + 1, by omega, by go_num, HZ2.out, by rw [HTS.out, List.length_append, flatI_append]; exact HO3.out, Cls.of (Below.mono (Below.grown (w := y.val.alloc _) ?_ HG.out (by simp; omega) (fun k hk => (HOW.out.lt k hk).1)) (by simp))⟩
          repeat first|with_reducible exact Below.refl _ _|with_reducible refine Below.setCell ?_ (by first|omega|(simp;done)|(simp;omega)) _|with_reducible refine Below.alloc ?_ (by first|omega|(simp;done)|(simp;omega)) _|with_reducible refine Below.drew ?_|with_reducible refine Ext.on _ ?_ (by first|omega|(simp;done)|(simp;omega))
        case measure => simp [intOf]; omega
      · have hrt : rt = (0, ej0) := by
          have e1 := HST.out hej
          rw [HT1.out (by rw [e1]; exact hej), e1]
        have HRT := Lib.hid hrt
        have b1 : (ej0 == 0) = false := by simp [hej]
        have b2 : (ej0 != 0) = true := by simp [hej]
        clear hej hrt
        go_wp2_with (go_at_call 100; ((with_reducible refine (C1.out _ ?_).mono ?_); (· (repeat first|with_reducible exact Below.refl _ _|with_reducible refine Below.setCell ?_ (by first|omega|(simp;done)|(simp;omega)) _|with_reducible refine Below.alloc ?_ (by first|omega|(simp;done)|(simp;omega)) _|with_reducible refine Below.drew ?_|with_reducible refine Ext.on _ ?_ (by first|omega|(simp;done)|(simp;omega)))); rintro r _ ⟨rfl, y, rfl⟩; have ys := y.size; (try simp at ys)))
        go_ret2
        rw [HRT.out]
        refine ⟨rfl, Cls.of ?_⟩
        repeat first|with_reducible exact Below.refl _ _|with_reducible refine Below.setCell ?_ (by first|omega|(simp;done)|(simp;omega)) _|with_reducible refine Below.alloc ?_ (by first|omega|(simp;done)|(simp;omega)) _|with_reducible refine Below.drew ?_|with_reducible refine Ext.on _ ?_ (by first|omega|(simp;done)|(simp;omega))
    · have hj2 : j = len := by omega
      subst hj2
      obtain ⟨ka, kc, hu, hnum⟩ := numIn_own HOW.out (by omega)
      have htake : ks.take j = ks := List.take_of_length_le (by rw [HKS.out]; omega)
      rw [htake, HKS.out] at hu hnum
      have HNU := Lib.hid hnum
      have hkc : j ≤ kc ∧ kc ≤ maxLen := ⟨hnum.2.1, hnum.2.2.1⟩
      unfold maxLen at hkc
      have hf0 : fstI es = 0 := fstI_all es fun i hi => HZ.out i (by have := HES.out; omega)
      have HR1 := Lib.hid ((HT0.out hf0).trans HND.out)
      have HBX : Hid (Below w.heap.size w x.val) := Lib.hid (by repeat first|with_reducible exact Below.refl _ _|with_reducible refine Below.setCell ?_ (by first|omega|(simp;done)|(simp;omega)) _|with_reducible refine Below.alloc ?_ (by first|omega|(simp;done)|(simp;omega)) _|with_reducible refine Below.drew ?_|with_reducible refine Ext.on _ ?_ (by first|omega|(simp;done)|(simp;omega)))
      clear hnum htake HOW HTL HI HK hf0 HT0 HT1 HZ HND HY HES HKS
      subst hu
      obtain ⟨g1, g2, g3, g4, g5⟩ := x.lts (b := w.heap.size) (by simp)
      generalize plainR e.op e.ty e.num e.text e.col = pb at HR1 CP HOP
      cases pb
      · have HRT : Hid (rt = (0, 1)) := Lib.hid HR1.out
        clear HR1 HOP CK0 CR0
        go_wp2_with (go_at_call 127; ((with_reducible refine (CP.out _).mono ?_); rintro r _ ⟨rfl, y2, rfl⟩; obtain ⟨m1, m2, m3, m4, m5⟩ := y2.lts g1; have yS2 := y2.size; (try simp at yS2)))
        go_ret2
        rw [HRT.out]
        refine ⟨rfl, Cls.of ?_⟩
        repeat first|with_reducible exact Below.refl _ _|with_reducible refine Below.setCell ?_ (by first|omega|(simp;done)|(simp;omega)) _|with_reducible refine Below.alloc ?_ (by first|omega|(simp;done)|(simp;omega)) _|with_reducible refine Below.drew ?_|with_reducible refine Ext.on _ ?_ (by first|omega|(simp;done)|(simp;omega))
      · obtain ⟨h1, h2⟩ := HOP.out rfl
        have CK := Lib.hid (CK0.out h1 h2)
        have CR1 := Lib.hid (CR0.out h1 h2)
        clear HOP CK0 CR0
        generalize takesO e.op j = tk at HR1 CK CR1
        cases tk
        · have HRT : Hid (rt = (0, 9)) := Lib.hid HR1.out
          clear HR1 CR1
          go_wp2_with (first | (go_at_call 127; ((with_reducible refine (CP.out _).mono ?_); rintro r _ ⟨rfl, y2, rfl⟩; obtain ⟨m1, m2, m3, m4, m5⟩ := y2.lts g1; have yS2 := y2.size; (try simp at yS2))) | (go_at_call 90; ((with_reducible refine (CK.out _).mono ?_); rintro r _ ⟨rfl, y3, rfl⟩; obtain ⟨o1, o2, o3, o4, o5⟩ := y3.lts m1; have yS3 := y3.size; (try simp at yS3))))
          go_ret2
          rw [HRT.out]
          refine ⟨rfl, Cls.of ?_⟩
          repeat first|with_reducible exact Below.refl _ _|with_reducible refine Below.setCell ?_ (by first|omega|(simp;done)|(simp;omega)) _|with_reducible refine Below.alloc ?_ (by first|omega|(simp;done)|(simp;omega)) _|with_reducible refine Below.drew ?_|with_reducible refine Ext.on _ ?_ (by first|omega|(simp;done)|(simp;omega))
        · have HR2 : Hid (rt = if e.op = 5 ∧ (e.col < 0 ∨ (tlen : Int) ≤ e.col) then (0, 3) else if resR tys e.op.toNat e.ty e.col ks < 1 ∨ 3 < resR tys e.op.toNat e.ty e.col ks then (0, 4) else (resR tys e.op.toNat e.ty e.col ks, 0)) := Lib.hid HR1.out
          have CR2 := Lib.hid (CR1.out rfl)
          clear HR1 CR1
          by_cases h5 : e.op = 5 ∧ (e.col < 0 ∨ (tlen : Int) ≤ e.col)
          · have HRT : Hid (rt = (0, 3)) := Lib.hid (by rw [HR2.out, if_pos h5])
            have b5 : (e.op == 5) = true := by simp [h5.1]
            by_cases c0 : e.col < 0
            · have d0 : decide (e.col < 0) = true := by simp; omega
              clear HR2 CR2 h5
              go_wp2_with (first | (go_at_call 127; ((with_reducible refine (CP.out _).mono ?_); rintro r _ ⟨rfl, y2, rfl⟩; obtain ⟨m1, m2, m3, m4, m5⟩ := y2.lts g1; have yS2 := y2.size; (try simp at yS2))) | (go_at_call 90; ((with_reducible refine (CK.out _).mono ?_); rintro r _ ⟨rfl, y3, rfl⟩; obtain ⟨o1, o2, o3, o4, o5⟩ := y3.lts m1; have yS3 := y3.size; (try simp at yS3))))
              go_ret2
              rw [HRT.out]
              refine ⟨rfl, Cls.of ?_⟩
              repeat first|with_reducible exact Below.refl _ _|with_reducible refine Below.setCell ?_ (by first|omega|(simp;done)|(simp;omega)) _|with_reducible refine Below.alloc ?_ (by first|omega|(simp;done)|(simp;omega)) _|with_reducible refine Below.drew ?_|with_reducible refine Ext.on _ ?_ (by first|omega|(simp;done)|(simp;omega))
            · have d0 : decide (e.col < 0) = false := by simp; omega
              have d1 : decide ((tlen : Int) ≤ e.col) = true := by simp; omega
              clear HR2 CR2 h5
              go_wp2_with (first | (go_at_call 127; ((with_reducible refine (CP.out _).mono ?_); rintro r _ ⟨rfl, y2, rfl⟩; obtain ⟨m1, m2, m3, m4, m5⟩ := y2.lts g1; have yS2 := y2.size; (try simp at yS2))) | (go_at_call 90; ((with_reducible refine (CK.out _).mono ?_); rintro r _ ⟨rfl, y3, rfl⟩; obtain ⟨o1, o2, o3, o4, o5⟩ := y3.lts m1; have yS3 := y3.size; (try simp at yS3))))
              go_ret2
              rw [HRT.out]
              refine ⟨rfl, Cls.of ?_⟩
              repeat first|with_reducible exact Below.refl _ _|with_reducible refine Below.setCell ?_ (by first|omega|(simp;done)|(simp;omega)) _|with_reducible refine Below.alloc ?_ (by first|omega|(simp;done)|(simp;omega)) _|with_reducible refine Below.drew ?_|with_reducible refine Ext.on _ ?_ (by first|omega|(simp;done)|(simp;omega))
          · have hcc : e.op = 5 → 0 ≤ e.col ∧ e.col < tlen := fun h => by
              have : ¬ (e.col < 0 ∨ (tlen : Int) ≤ e.col) := fun h' => h5 ⟨h, h'⟩
              omega
            have HR3 : Hid (rt = if resR tys e.op.toNat e.ty e.col ks < 1 ∨ 3 < resR tys e.op.toNat e.ty e.col ks then (0, 4) else (resR tys e.op.toNat e.ty e.col ks, 0)) := Lib.hid (by rw [HR2.out, if_neg h5])
            have CR : Hid (∀ W, Below x.val.heap.size x.val W → Calls Tryz.prog 128 #[.slice ta tlen tcap, .agg #[.int .i64 e.op, .int .i64 e.ty, .int .i64 e.num, .string e.text, .int .i64 e.col, .slice a j cap], .slice ka j kc] W fun r w' => r = .returned (.int .i64 (resR tys e.op.toNat e.ty e.col ks)) ∧ Cls W w') := Lib.hid fun W hW => CR2.out hcc ka kc W (HBX.out.trans (hW.mono HBX.out.size)) (HNU.out.later hW)
            clear HR2 CR2 h5
            generalize resR tys e.op.toNat e.ty e.col ks = rv at HR3 CR
            have hvv : rv < 1 ∨ (¬ rv < 1 ∧ 3 < rv) ∨ (¬ rv < 1 ∧ ¬ 3 < rv) := by omega
            by_cases o5 : e.op = 5
            · obtain ⟨c0, c1⟩ := hcc o5
              have b5 : (e.op == 5) = true := by simp [o5]
              have d0 : decide (e.col < 0) = false := by simp; omega
              have d1 : decide ((tlen : Int) ≤ e.col) = false := by simp; omega
              clear hcc o5
              rcases hvv with v1 | ⟨v1, v2⟩ | ⟨v1, v2⟩
              · have HRT : Hid (rt = (0, 4)) := Lib.hid (by rw [HR3.out, if_pos (.inl v1)])
                have f1 : decide (rv < 1) = true := by simp; omega
                clear HR3
                go_wp2_with (first | (go_at_call 127; ((with_reducible refine (CP.out _).mono ?_); rintro r _ ⟨rfl, y2, rfl⟩; obtain ⟨m1, m2, m3, m4, m5⟩ := y2.lts g1; have yS2 := y2.size; (try simp at yS2))) | (go_at_call 90; ((with_reducible refine (CK.out _).mono ?_); rintro r _ ⟨rfl, y3, rfl⟩; obtain ⟨o1, o2, o3, o4, o5⟩ := y3.lts m1; have yS3 := y3.size; (try simp at yS3))) | (go_at_call 128; ((with_reducible refine (CR.out _ ?_).mono ?_); (· (repeat first|with_reducible exact Below.refl _ _|with_reducible refine Below.setCell ?_ (by first|omega|(simp;done)|(simp;omega)) _|with_reducible refine Below.alloc ?_ (by first|omega|(simp;done)|(simp;omega)) _|with_reducible refine Below.drew ?_|with_reducible refine Ext.on _ ?_ (by first|omega|(simp;done)|(simp;omega)))); rintro r _ ⟨rfl, y4, rfl⟩)))
                go_ret2
                rw [HRT.out]
                refine ⟨rfl, Cls.of ?_⟩
                repeat first|with_reducible exact Below.refl _ _|with_reducible refine Below.setCell ?_ (by first|omega|(simp;done)|(simp;omega)) _|with_reducible refine Below.alloc ?_ (by first|omega|(simp;done)|(simp;omega)) _|with_reducible refine Below.drew ?_|with_reducible refine Ext.on _ ?_ (by first|omega|(simp;done)|(simp;omega))
              · have HRT : Hid (rt = (0, 4)) := Lib.hid (by rw [HR3.out, if_pos (.inr v2)])
                have f1 : decide (rv < 1) = false := by simp; omega
                have f2 : decide (3 < rv) = true := by simp; omega
                clear HR3
                go_wp2_with (first | (go_at_call 127; ((with_reducible refine (CP.out _).mono ?_); rintro r _ ⟨rfl, y2, rfl⟩; obtain ⟨m1, m2, m3, m4, m5⟩ := y2.lts g1; have yS2 := y2.size; (try simp at yS2))) | (go_at_call 90; ((with_reducible refine (CK.out _).mono ?_); rintro r _ ⟨rfl, y3, rfl⟩; obtain ⟨o1, o2, o3, o4, o5⟩ := y3.lts m1; have yS3 := y3.size; (try simp at yS3))) | (go_at_call 128; ((with_reducible refine (CR.out _ ?_).mono ?_); (· (repeat first|with_reducible exact Below.refl _ _|with_reducible refine Below.setCell ?_ (by first|omega|(simp;done)|(simp;omega)) _|with_reducible refine Below.alloc ?_ (by first|omega|(simp;done)|(simp;omega)) _|with_reducible refine Below.drew ?_|with_reducible refine Ext.on _ ?_ (by first|omega|(simp;done)|(simp;omega)))); rintro r _ ⟨rfl, y4, rfl⟩)))
                go_ret2
                rw [HRT.out]
                refine ⟨rfl, Cls.of ?_⟩
                repeat first|with_reducible exact Below.refl _ _|with_reducible refine Below.setCell ?_ (by first|omega|(simp;done)|(simp;omega)) _|with_reducible refine Below.alloc ?_ (by first|omega|(simp;done)|(simp;omega)) _|with_reducible refine Below.drew ?_|with_reducible refine Ext.on _ ?_ (by first|omega|(simp;done)|(simp;omega))
              · have HRT : Hid (rt = (rv, 0)) := Lib.hid (by rw [HR3.out, if_neg (by omega)])
                have f1 : decide (rv < 1) = false := by simp; omega
                have f2 : decide (3 < rv) = false := by simp; omega
                clear HR3
                go_wp2_with (first | (go_at_call 127; ((with_reducible refine (CP.out _).mono ?_); rintro r _ ⟨rfl, y2, rfl⟩; obtain ⟨m1, m2, m3, m4, m5⟩ := y2.lts g1; have yS2 := y2.size; (try simp at yS2))) | (go_at_call 90; ((with_reducible refine (CK.out _).mono ?_); rintro r _ ⟨rfl, y3, rfl⟩; obtain ⟨o1, o2, o3, o4, o5⟩ := y3.lts m1; have yS3 := y3.size; (try simp at yS3))) | (go_at_call 128; ((with_reducible refine (CR.out _ ?_).mono ?_); (· (repeat first|with_reducible exact Below.refl _ _|with_reducible refine Below.setCell ?_ (by first|omega|(simp;done)|(simp;omega)) _|with_reducible refine Below.alloc ?_ (by first|omega|(simp;done)|(simp;omega)) _|with_reducible refine Below.drew ?_|with_reducible refine Ext.on _ ?_ (by first|omega|(simp;done)|(simp;omega)))); rintro r _ ⟨rfl, y4, rfl⟩)))
                go_ret2
                rw [HRT.out]
                refine ⟨rfl, Cls.of ?_⟩
                repeat first|with_reducible exact Below.refl _ _|with_reducible refine Below.setCell ?_ (by first|omega|(simp;done)|(simp;omega)) _|with_reducible refine Below.alloc ?_ (by first|omega|(simp;done)|(simp;omega)) _|with_reducible refine Below.drew ?_|with_reducible refine Ext.on _ ?_ (by first|omega|(simp;done)|(simp;omega))
            · have b5 : (e.op == 5) = false := by simp [o5]
              clear hcc o5
              rcases hvv with v1 | ⟨v1, v2⟩ | ⟨v1, v2⟩
              · have HRT : Hid (rt = (0, 4)) := Lib.hid (by rw [HR3.out, if_pos (.inl v1)])
                have f1 : decide (rv < 1) = true := by simp; omega
                clear HR3
                go_wp2_with (first | (go_at_call 127; ((with_reducible refine (CP.out _).mono ?_); rintro r _ ⟨rfl, y2, rfl⟩; obtain ⟨m1, m2, m3, m4, m5⟩ := y2.lts g1; have yS2 := y2.size; (try simp at yS2))) | (go_at_call 90; ((with_reducible refine (CK.out _).mono ?_); rintro r _ ⟨rfl, y3, rfl⟩; obtain ⟨o1, o2, o3, o4, o5⟩ := y3.lts m1; have yS3 := y3.size; (try simp at yS3))) | (go_at_call 128; ((with_reducible refine (CR.out _ ?_).mono ?_); (· (repeat first|with_reducible exact Below.refl _ _|with_reducible refine Below.setCell ?_ (by first|omega|(simp;done)|(simp;omega)) _|with_reducible refine Below.alloc ?_ (by first|omega|(simp;done)|(simp;omega)) _|with_reducible refine Below.drew ?_|with_reducible refine Ext.on _ ?_ (by first|omega|(simp;done)|(simp;omega)))); rintro r _ ⟨rfl, y4, rfl⟩)))
                go_ret2
                rw [HRT.out]
                refine ⟨rfl, Cls.of ?_⟩
                repeat first|with_reducible exact Below.refl _ _|with_reducible refine Below.setCell ?_ (by first|omega|(simp;done)|(simp;omega)) _|with_reducible refine Below.alloc ?_ (by first|omega|(simp;done)|(simp;omega)) _|with_reducible refine Below.drew ?_|with_reducible refine Ext.on _ ?_ (by first|omega|(simp;done)|(simp;omega))
              · have HRT : Hid (rt = (0, 4)) := Lib.hid (by rw [HR3.out, if_pos (.inr v2)])
                have f1 : decide (rv < 1) = false := by simp; omega
                have f2 : decide (3 < rv) = true := by simp; omega
                clear HR3
                go_wp2_with (first | (go_at_call 127; ((with_reducible refine (CP.out _).mono ?_); rintro r _ ⟨rfl, y2, rfl⟩; obtain ⟨m1, m2, m3, m4, m5⟩ := y2.lts g1; have yS2 := y2.size; (try simp at yS2))) | (go_at_call 90; ((with_reducible refine (CK.out _).mono ?_); rintro r _ ⟨rfl, y3, rfl⟩; obtain ⟨o1, o2, o3, o4, o5⟩ := y3.lts m1; have yS3 := y3.size; (try simp at yS3))) | (go_at_call 128; ((with_reducible refine (CR.out _ ?_).mono ?_); (· (repeat first|with_reducible exact Below.refl _ _|with_reducible refine Below.setCell ?_ (by first|omega|(simp;done)|(simp;omega)) _|with_reducible refine Below.alloc ?_ (by first|omega|(simp;done)|(simp;omega)) _|with_reducible refine Below.drew ?_|with_reducible refine Ext.on _ ?_ (by first|omega|(simp;done)|(simp;omega)))); rintro r _ ⟨rfl, y4, rfl⟩)))
                go_ret2
                rw [HRT.out]
                refine ⟨rfl, Cls.of ?_⟩
                repeat first|with_reducible exact Below.refl _ _|with_reducible refine Below.setCell ?_ (by first|omega|(simp;done)|(simp;omega)) _|with_reducible refine Below.alloc ?_ (by first|omega|(simp;done)|(simp;omega)) _|with_reducible refine Below.drew ?_|with_reducible refine Ext.on _ ?_ (by first|omega|(simp;done)|(simp;omega))
              · have HRT : Hid (rt = (rv, 0)) := Lib.hid (by rw [HR3.out, if_neg (by omega)])
                have f1 : decide (rv < 1) = false := by simp; omega
                have f2 : decide (3 < rv) = false := by simp; omega
                clear HR3
                go_wp2_with (first | (go_at_call 127; ((with_reducible refine (CP.out _).mono ?_); rintro r _ ⟨rfl, y2, rfl⟩; obtain ⟨m1, m2, m3, m4, m5⟩ := y2.lts g1; have yS2 := y2.size; (try simp at yS2))) | (go_at_call 90; ((with_reducible refine (CK.out _).mono ?_); rintro r _ ⟨rfl, y3, rfl⟩; obtain ⟨o1, o2, o3, o4, o5⟩ := y3.lts m1; have yS3 := y3.size; (try simp at yS3))) | (go_at_call 128; ((with_reducible refine (CR.out _ ?_).mono ?_); (· (repeat first|with_reducible exact Below.refl _ _|with_reducible refine Below.setCell ?_ (by first|omega|(simp;done)|(simp;omega)) _|with_reducible refine Below.alloc ?_ (by first|omega|(simp;done)|(simp;omega)) _|with_reducible refine Below.drew ?_|with_reducible refine Ext.on _ ?_ (by first|omega|(simp;done)|(simp;omega)))); rintro r _ ⟨rfl, y4, rfl⟩)))
                go_ret2
                rw [HRT.out]
                refine ⟨rfl, Cls.of ?_⟩
                repeat first|with_reducible exact Below.refl _ _|with_reducible refine Below.setCell ?_ (by first|omega|(simp;done)|(simp;omega)) _|with_reducible refine Below.alloc ?_ (by first|omega|(simp;done)|(simp;omega)) _|with_reducible refine Below.drew ?_|with_reducible refine Ext.on _ ?_ (by first|omega|(simp;done)|(simp;omega))
end Go.Proofs.YtdmhmlnfoocnjaaGreatDoor
