/-
  One level of the program's typeOf: its loop over the Kids, and what it asks of the operation. The program's Type of the expressions that the tape makes.
-/
import Derived.Test.YtpddkljedhghkaaDoorK07
import Derived.Test.YtpddkljedhghkaaDoorK16
import Derived.Test.YtpddkljedhghkaaDoorK18
set_option linter.unusedVariables false
namespace Go.Proofs.YtpddkljedhghkaaDoor
open Go Go.RowKit Go.Deep
theorem NumIn.of {T : Nat} {w : World} {a : Option Addr} {len cap : Nat} {l : List Int} (h : IntsAt T w a len cap l) : NumIn w a len cap l := by
  refine ⟨h.1, h.2.1, h.2.2.1, h.2.2.2.imp id ?_⟩
  rintro ⟨b, off, ha, hT, hb, hc⟩
  exact ⟨b, off, ha, hb, hc⟩
theorem numIn_own {w : World} {base : Nat} {v : Value} {l : List Int} (h : w.ownsRow base 3 1 v l.length (flatI l)) (hT : 0 < base) : ∃ a cap, v = .slice a l.length cap ∧ NumIn w a l.length cap l := by
  obtain ⟨a, cap, h1, h2⟩ := intsAt_of h hT
  exact ⟨a, cap, h1, .of h2⟩
theorem own_later2 {w w' : World} {base size n : Nat} {e : TypeId} {v : Value} {xs : List Value} (h : w.ownsRow base e size v n xs) (hb : Below w.heap.size w w') : w'.ownsRow base e size v n xs := by
  refine ⟨h.1, h.2.imp id ?_⟩
  rintro ⟨g, cap, cur, hv, hg, hh, rest⟩
  exact ⟨g, cap, cur, hv, hg, (hb.block g (Array.getElem?_eq_some_iff.1 hh).1).trans hh, rest⟩
theorem cls_made {w w' : World} (hg : w.grownBy w' none) : Cls w w' := Cls.of (Below.grown (w := w) (Below.refl _ _) hg (Nat.le_refl _) (fun k hk => by cases hk))
theorem take_snocI {l : List Int} {j : Nat} (h : j < l.length) : l.take (j + 1) = l.take j ++ [l.getD j 0] := by
  rw [List.take_succ_eq_append_getElem h]
  simp [List.getD, h]
set_option maxHeartbeats 4000000 in
set_option maxRecDepth 20000 in
theorem typeOf_walk (e : Ex) (n : Nat) (hn : e.op = (n : Int)) (h1 : 1 ≤ n) (h2 : n < 29) (ks : List Int) (k : Int) (ty : List Int) (ta : Option Addr) (tlen tcap : Nat) (a : Option Addr) (len cap : Nat) (ok : Nat → Prop) (w : World)
    (hty : NumIn w ta tlen tcap ty) (hk : Kids w ok a len cap e.kids) (hks : ks.length = len) (hl12 : len ≤ 12) (hs : e.text.size ≤ maxLen) (ho : OpsTab w)
    (ih : ∀ j, j < len → ∀ (a' : Option Addr) (len' cap' : Nat) (W : World), NumIn W ta tlen tcap ty → Kids W ok a' len' cap' (e.kids.getD j Ex.z).kids → OpsTab W →
      Calls Tryd.prog 32 #[.slice ta tlen tcap, .agg #[.int .i64 (e.kids.getD j Ex.z).op, .int .i64 (e.kids.getD j Ex.z).ty, .int .i64 (e.kids.getD j Ex.z).num, .string (e.kids.getD j Ex.z).text, .int .i64 (e.kids.getD j Ex.z).col, .slice a' len' cap']] W fun r w' => r = .returned (.tuple #[.int .i64 (ks.getD j 0), .int .i64 0]) ∧ Cls W w')
    (hOnly : Only e.ty e.num e.text e.col (oRow n).has) (hPerm : Perm e.op e.ty e.num e.text) (htk : takesH (oRow n).has len = true)
    (hres : (n = 1 ∧ k = e.ty) ∨ (n = 5 ∧ ∃ c : Nat, e.col = (c : Int) ∧ c < tlen ∧ (ty.getD c 0 = 1 ∨ ty.getD c 0 = 2 ∨ ty.getD c 0 = 3) ∧ ty.getD c 0 = k) ∨ (n ≠ 1 ∧ n ≠ 5 ∧ Fits (oRow n) ks ∧ givesOf (oRow n) ks = k)) :
    Calls Tryd.prog 32 #[.slice ta tlen tcap, .agg #[.int .i64 e.op, .int .i64 e.ty, .int .i64 e.num, .string e.text, .int .i64 e.col, .slice a len cap]] w fun r w' => r = .returned (.tuple #[.int .i64 k, .int .i64 0]) ∧ Cls w w' := by
  obtain ⟨i0, hi, hz0, hz1, hz2⟩ := info_parts infoI
  have hle := hk.le
  have hmax := hk.max
  unfold maxLen at hmax
  have HKS := Lib.hid hks
  have HK := Lib.hid hk
  have HI := Lib.hid ih
  have HY := Lib.hid hty
  have HO := Lib.hid ho
  have HR := Lib.hid hres
  have CF : Hid (∀ W, Below w.heap.size w W → Calls Tryd.prog 33 #[.int .i64 e.op] W fun r w' => r = .returned (.tuple #[.agg #[.string ⟨(oRow n).word.toArray⟩, .int .i64 (oRow n).has, .int .i64 (oRow n).first, .int .i64 (oRow n).others, .int .i64 (oRow n).gives], .bool true]) ∧ Cls W w') := Lib.hid (fun W hW => by rw [hn]; exact find_yes n W h1 h2 (ho.later hW))
  have CO : Hid (∀ W, Calls Tryd.prog 75 #[.agg #[.int .i64 e.op, .int .i64 e.ty, .int .i64 e.num, .string e.text, .int .i64 e.col, .slice a len cap], .int .i64 (oRow n).has] W fun r w' => r = .returned (.bool true) ∧ Cls W w') := Lib.hid (fun W => hasOnly_calls _ _ _ _ _ a len cap _ W hOnly)
  have CP : Hid (∀ W, Calls Tryd.prog 76 #[.agg #[.int .i64 e.op, .int .i64 e.ty, .int .i64 e.num, .string e.text, .int .i64 e.col, .slice a len cap]] W fun r w' => r = .returned (.bool true) ∧ Cls W w') := Lib.hid (fun W => permitted_calls e a len cap W hPerm hs)
  have CT : Hid (∀ W, Calls Tryd.prog 34 #[.agg #[.string ⟨(oRow n).word.toArray⟩, .int .i64 (oRow n).has, .int .i64 (oRow n).first, .int .i64 (oRow n).others, .int .i64 (oRow n).gives], .int .i64 (len : Nat)] W fun r w' => r = .returned (.bool true) ∧ Cls W w') := Lib.hid (fun W => by
    have := takes_calls (oRow n) len W (has_ok n h1 h2)
    rw [htk] at this
    exact this)
  have CR : Hid (∀ (ka : Option Addr) (kc : Nat) W, Fits (oRow n) ks → givesOf (oRow n) ks = k → NumIn W ka len kc ks → Calls Tryd.prog 78 #[.agg #[.string ⟨(oRow n).word.toArray⟩, .int .i64 (oRow n).has, .int .i64 (oRow n).first, .int .i64 (oRow n).others, .int .i64 (oRow n).gives], .slice ka len kc] W fun r w' => r = .returned (.tuple #[.int .i64 k, .bool true]) ∧ Cls W w') := Lib.hid (fun ka kc W g1 g2 g3 => by
    have := result_calls (oRow n) ks ka len kc W g3 g1
    rw [g2] at this
    exact this)
  have HN := Lib.hid hn
  clear hty hk hks ho ih hOnly hPerm htk hres hs
  have HFG : Hid ((n ≠ 1 ∧ n ≠ 5) → Fits (oRow n) ks ∧ givesOf (oRow n) ks = k) := Lib.hid (fun hne => by
    rcases HR.out with ⟨h, _⟩ | ⟨h, _⟩ | ⟨_, _, h⟩
    · exact absurd h hne.1
    · exact absurd h hne.2
    · exact h)
  clear hn
  generalize oRow n = o at *
  generalize Fits o ks = FI at *
  generalize givesOf o ks = gv at *
  obtain ⟨word, has, first, others, gives⟩ := o
  simp only at CF CO CT CR
  go_enter Tryd.func32, Tryd.ntmps32
  go_wp2_with (at_make; refine wpList_make_own _ rfl _ _ 22 rfl (w.heap.size + 1) 3 i0 (.int .i64 0) 1 Tryd.underlying22 hi hz0 hz1 _ _ _ len rfl rfl rfl (by rw [hz2]; omega) (by unfold maxLen; omega) (by simp) ?_; intro w1 hown hg; have HOWN := Lib.hid hown; clear hown; obtain ⟨x1, rfl⟩ := cls_made hg; clear hg)
  go_loopw [6, 21] (fun u i wr => ∃ j : Nat, j ≤ len ∧ i = .int .i64 j ∧ wr.ownsRow (w.heap.size + 1) 3 1 u (ks.take j).length (flatI (ks.take j)) ∧ Cls (w.alloc (.cells #[.int .i64 e.op, .int .i64 e.ty, .int .i64 e.num, .string e.text, .int .i64 e.col, .slice a len cap] 30)) wr) (fun _ i _ => len - (intOf i).toNat)
  case atStart => exact ⟨0, Nat.zero_le _, rfl, by simpa [flatI] using HOWN.out, x1, rfl⟩
  case round =>
    clear HOWN
    obtain ⟨j, hj, rfl, hown, x, rfl⟩ := hrel
    have HOW := Lib.hid hown
    clear hown
    have xs := x.size
    simp at xs
    have HTL : Hid ((ks.take j).length = j) := Lib.hid (by rw [List.length_take, HKS.out]; omega)
    by_cases hlt : j < len
    · obtain ⟨a', len', cap', ⟨b, off, rfl, hb, hok, q0, q1, q2, q3, q4, q5⟩, hfine, hk'⟩ := HK.out.at_ hlt
      have hb1 : b < w.heap.size + 1 := by omega
      have C1 : Hid (∀ W, Below w.heap.size w W → Calls Tryd.prog 32 #[.slice ta tlen tcap, .agg #[.int .i64 (e.kids.getD j Ex.z).op, .int .i64 (e.kids.getD j Ex.z).ty, .int .i64 (e.kids.getD j Ex.z).num, .string (e.kids.getD j Ex.z).text, .int .i64 (e.kids.getD j Ex.z).col, .slice a' len' cap']] W fun r w' => r = .returned (.tuple #[.int .i64 (ks.getD j 0), .int .i64 0]) ∧ Cls W w') := Lib.hid (fun W hW => HI.out j hlt a' len' cap' W (HY.out.later hW) (hk'.later hW) (HO.out.later hW))
      have HTS := Lib.hid (take_snocI (l := ks) (j := j) (by rw [HKS.out]; exact hlt))
      clear hk' hfine hok
      generalize ks.getD j 0 = kj at C1 HTS
      generalize e.kids.getD j Ex.z = ej at *
      go_wp2_with (first | (go_at_call 32; ((with_reducible refine (C1.out _ ?_).mono ?_); (· (repeat first | with_reducible exact Below.refl _ _ | with_reducible refine Below.setCell ?_ (by first | omega | (simp; done) | (simp; omega)) _ | with_reducible refine Below.alloc ?_ (by first | omega | (simp; done) | (simp; omega)) _ | with_reducible refine Below.drew ?_ | with_reducible refine Ext.on _ ?_ (by first | omega | (simp; done) | (simp; omega)))); rintro r _ ⟨rfl, y, rfl⟩; have ys := y.size; simp at ys)) | (at_builtin; refine wpList_append_own_at _ rfl _ _ 22 rfl (w.heap.size + 1) 3 i0 (.int .i64 0) 1 8 Tryd.underlying22 hi hz0 hz1 hz2 rfl (by decide) _ (ks.take j).length (flatI (ks.take j)) rfl (own_later2 HOW.out (by repeat first | with_reducible exact Below.refl _ _ | with_reducible refine Below.setCell ?_ (by first | omega | (simp; done) | (simp; omega)) _ | with_reducible refine Below.alloc ?_ (by first | omega | (simp; done) | (simp; omega)) _ | with_reducible refine Below.drew ?_ | with_reducible refine Ext.on _ ?_ (by first | omega | (simp; done) | (simp; omega)))) ⟨y.val.heap.size, 0, none⟩ 1 1 [.int .i64 kj] rfl rfl (fun j u hu => by have h9 := cells_new' y.val [.int .i64 kj] 3 j u hu; simpa using h9) (int_one _) (by have := HTL.out; unfold maxLen; omega) (by have := HTL.out; omega) (by simp; omega) ?_; intro v3 w3 hown3 hg3 _ hat3; have HO3 := Lib.hid hown3; have HG := Lib.hid hg3; clear hown3 hg3 hat3))
      go_roundw
      case rel =>
        refine ⟨j + 1, by omega, by go_num, by rw [HTS.out, List.length_append, flatI_append]; exact HO3.out, Cls.of (Below.mono (Below.grown (w := y.val.alloc _) ?_ HG.out (by simp; omega) (fun k hk => (HOW.out.lt k hk).1)) (by simp))⟩
        repeat first | with_reducible exact Below.refl _ _ | with_reducible refine Below.setCell ?_ (by first | omega | (simp; done) | (simp; omega)) _ | with_reducible refine Below.alloc ?_ (by first | omega | (simp; done) | (simp; omega)) _ | with_reducible refine Below.drew ?_ | with_reducible refine Ext.on _ ?_ (by first | omega | (simp; done) | (simp; omega))
      case measure => simp [intOf]; omega
    · have hj2 : j = len := by omega
      subst hj2
      obtain ⟨ka, kc, hu, hnum⟩ := numIn_own HOW.out (by omega)
      have htake : ks.take j = ks := List.take_of_length_le (by rw [HKS.out]; omega)
      rw [htake, HKS.out] at hu hnum
      have HNU := Lib.hid hnum
      have hkc : j ≤ kc ∧ kc ≤ maxLen := ⟨hnum.2.1, hnum.2.2.1⟩
      unfold maxLen at hkc
      clear hnum htake HOW HTL HI HK
      subst hu
      obtain ⟨g1, g2, g3, g4, g5⟩ := x.lts (b := w.heap.size) (by simp)
      by_cases n1 : n = 1
      · have b1 : (e.op == 1) = true := by rw [HN.out, n1]; rfl
        have hk1 : k = e.ty := by
          rcases HR.out with ⟨_, h⟩ | ⟨h, _⟩ | ⟨h, _⟩
          · exact h
          · omega
          · exact absurd n1 h
        have HK1 := Lib.hid hk1
        clear hk1 n1
        go_wp2_with (first | (go_at_call 33; ((with_reducible refine (CF.out _ ?_).mono ?_); (· (repeat first | with_reducible exact Below.refl _ _ | with_reducible refine Below.setCell ?_ (by first | omega | (simp; done) | (simp; omega)) _ | with_reducible refine Below.alloc ?_ (by first | omega | (simp; done) | (simp; omega)) _ | with_reducible refine Below.drew ?_ | with_reducible refine Ext.on _ ?_ (by first | omega | (simp; done) | (simp; omega)))); rintro r _ ⟨rfl, y, rfl⟩; obtain ⟨l1, l2, l3, l4, l5⟩ := y.lts g1; have yS1 := y.size; (try simp at yS1))) | (go_at_call 75; ((with_reducible refine (CO.out _).mono ?_); rintro r _ ⟨rfl, y2, rfl⟩; obtain ⟨m1, m2, m3, m4, m5⟩ := y2.lts (b := w.heap.size) (by simp; omega); obtain ⟨n1, n2, n3, n4, n5⟩ := y2.lts (b := y.val.heap.size) (by simp); have yS2 := y2.size; (try simp at yS2))) | (go_at_call 76; ((with_reducible refine (CP.out _).mono ?_); rintro r _ ⟨rfl, y3, rfl⟩; obtain ⟨o1, o2, o3, o4, o5⟩ := y3.lts m1; obtain ⟨p1, p2, p3, p4, p5⟩ := y3.lts n1; have yS3 := y3.size; (try simp at yS3))) | (go_at_call 34; ((with_reducible refine (CT.out _).mono ?_); rintro r _ ⟨rfl, y4, rfl⟩; obtain ⟨r1, r2, r3, r4, r5⟩ := y4.lts o1; obtain ⟨s1, s2, s3, s4, s5⟩ := y4.lts p1; have yS4 := y4.size; (try simp at yS4))))
        go_ret2
        refine ⟨by rw [HK1.out]; rfl, Cls.of ?_⟩
        repeat first | with_reducible exact Below.refl _ _ | with_reducible refine Below.setCell ?_ (by first | omega | (simp; done) | (simp; omega)) _ | with_reducible refine Below.alloc ?_ (by first | omega | (simp; done) | (simp; omega)) _ | with_reducible refine Below.drew ?_ | with_reducible refine Ext.on _ ?_ (by first | omega | (simp; done) | (simp; omega))
      · have b1 : (e.op == 1) = false := by rw [HN.out]; simp; omega
        by_cases n5 : n = 5
        · have b5 : (e.op == 5) = true := by rw [HN.out, n5]; rfl
          obtain ⟨c, hc, hct, hcty, hck⟩ : ∃ c : Nat, e.col = (c : Int) ∧ c < tlen ∧ (ty.getD c 0 = 1 ∨ ty.getD c 0 = 2 ∨ ty.getD c 0 = 3) ∧ ty.getD c 0 = k := by
            rcases HR.out with ⟨h, _⟩ | ⟨_, h⟩ | ⟨_, h, _⟩
            · exact absurd h n1
            · exact h
            · exact absurd n5 h
          have CC : Hid (∀ W, Below w.heap.size w W → Calls Tryd.prog 77 #[.slice ta tlen tcap, .int .i64 e.col] W fun r w' => r = .returned (.tuple #[.int .i64 k, .int .i64 0]) ∧ Cls W w') := Lib.hid (fun W hW => by
            have := columnType_calls ty c ta tlen tcap W (HY.out.later hW) hct hcty
            rw [hck] at this
            rw [hc]
            exact this)
          clear hc hct hcty hck n1 n5
          go_wp2_with (first | (go_at_call 33; ((with_reducible refine (CF.out _ ?_).mono ?_); (· (repeat first | with_reducible exact Below.refl _ _ | with_reducible refine Below.setCell ?_ (by first | omega | (simp; done) | (simp; omega)) _ | with_reducible refine Below.alloc ?_ (by first | omega | (simp; done) | (simp; omega)) _ | with_reducible refine Below.drew ?_ | with_reducible refine Ext.on _ ?_ (by first | omega | (simp; done) | (simp; omega)))); rintro r _ ⟨rfl, y, rfl⟩; obtain ⟨l1, l2, l3, l4, l5⟩ := y.lts g1; have yS1 := y.size; (try simp at yS1))) | (go_at_call 75; ((with_reducible refine (CO.out _).mono ?_); rintro r _ ⟨rfl, y2, rfl⟩; obtain ⟨m1, m2, m3, m4, m5⟩ := y2.lts (b := w.heap.size) (by simp; omega); obtain ⟨n1, n2, n3, n4, n5⟩ := y2.lts (b := y.val.heap.size) (by simp); have yS2 := y2.size; (try simp at yS2))) | (go_at_call 76; ((with_reducible refine (CP.out _).mono ?_); rintro r _ ⟨rfl, y3, rfl⟩; obtain ⟨o1, o2, o3, o4, o5⟩ := y3.lts m1; obtain ⟨p1, p2, p3, p4, p5⟩ := y3.lts n1; have yS3 := y3.size; (try simp at yS3))) | (go_at_call 34; ((with_reducible refine (CT.out _).mono ?_); rintro r _ ⟨rfl, y4, rfl⟩; obtain ⟨r1, r2, r3, r4, r5⟩ := y4.lts o1; obtain ⟨s1, s2, s3, s4, s5⟩ := y4.lts p1; have yS4 := y4.size; (try simp at yS4))) | (go_at_call 77; ((with_reducible refine (CC.out _ ?_).mono ?_); (· (repeat first | with_reducible exact Below.refl _ _ | with_reducible refine Below.setCell ?_ (by first | omega | (simp; done) | (simp; omega)) _ | with_reducible refine Below.alloc ?_ (by first | omega | (simp; done) | (simp; omega)) _ | with_reducible refine Below.drew ?_ | with_reducible refine Ext.on _ ?_ (by first | omega | (simp; done) | (simp; omega)))); rintro r _ ⟨rfl, y5, rfl⟩)))
          go_ret2
          refine ⟨rfl, Cls.of ?_⟩
          repeat first | with_reducible exact Below.refl _ _ | with_reducible refine Below.setCell ?_ (by first | omega | (simp; done) | (simp; omega)) _ | with_reducible refine Below.alloc ?_ (by first | omega | (simp; done) | (simp; omega)) _ | with_reducible refine Below.drew ?_ | with_reducible refine Ext.on _ ?_ (by first | omega | (simp; done) | (simp; omega))
        · have b5 : (e.op == 5) = false := by rw [HN.out]; simp; omega
          obtain ⟨hFI, hgv⟩ := HFG.out ⟨n1, n5⟩
          have HFI := Lib.hid hFI
          have HGV := Lib.hid hgv
          clear hFI hgv n1 n5
          go_wp2_with (first | (go_at_call 33; ((with_reducible refine (CF.out _ ?_).mono ?_); (· (repeat first | with_reducible exact Below.refl _ _ | with_reducible refine Below.setCell ?_ (by first | omega | (simp; done) | (simp; omega)) _ | with_reducible refine Below.alloc ?_ (by first | omega | (simp; done) | (simp; omega)) _ | with_reducible refine Below.drew ?_ | with_reducible refine Ext.on _ ?_ (by first | omega | (simp; done) | (simp; omega)))); rintro r _ ⟨rfl, y, rfl⟩; obtain ⟨l1, l2, l3, l4, l5⟩ := y.lts g1; have yS1 := y.size; (try simp at yS1))) | (go_at_call 75; ((with_reducible refine (CO.out _).mono ?_); rintro r _ ⟨rfl, y2, rfl⟩; obtain ⟨m1, m2, m3, m4, m5⟩ := y2.lts (b := w.heap.size) (by simp; omega); obtain ⟨n1, n2, n3, n4, n5⟩ := y2.lts (b := y.val.heap.size) (by simp); have yS2 := y2.size; (try simp at yS2))) | (go_at_call 76; ((with_reducible refine (CP.out _).mono ?_); rintro r _ ⟨rfl, y3, rfl⟩; obtain ⟨o1, o2, o3, o4, o5⟩ := y3.lts m1; obtain ⟨p1, p2, p3, p4, p5⟩ := y3.lts n1; have yS3 := y3.size; (try simp at yS3))) | (go_at_call 34; ((with_reducible refine (CT.out _).mono ?_); rintro r _ ⟨rfl, y4, rfl⟩; obtain ⟨r1, r2, r3, r4, r5⟩ := y4.lts o1; obtain ⟨s1, s2, s3, s4, s5⟩ := y4.lts p1; have yS4 := y4.size; (try simp at yS4))) | (go_at_call 78; ((with_reducible refine (CR.out ka kc _ HFI.out HGV.out (HNU.out.later ?_)).mono ?_); (· (repeat first | with_reducible exact Below.refl _ _ | with_reducible refine Below.setCell ?_ (by first | omega | (simp; done) | (simp; omega)) _ | with_reducible refine Below.alloc ?_ (by first | omega | (simp; done) | (simp; omega)) _ | with_reducible refine Below.drew ?_ | with_reducible refine Ext.on _ ?_ (by first | omega | (simp; done) | (simp; omega)))); rintro r _ ⟨rfl, y5, rfl⟩)))
          go_ret2
          refine ⟨rfl, Cls.of ?_⟩
          repeat first | with_reducible exact Below.refl _ _ | with_reducible refine Below.setCell ?_ (by first | omega | (simp; done) | (simp; omega)) _ | with_reducible refine Below.alloc ?_ (by first | omega | (simp; done) | (simp; omega)) _ | with_reducible refine Below.drew ?_ | with_reducible refine Ext.on _ ?_ (by first | omega | (simp; done) | (simp; omega))
end Go.Proofs.YtpddkljedhghkaaDoor
set_option linter.unusedVariables false
namespace Go.Proofs.YtpddkljedhghkaaDoor
open Go Go.RowKit Go.Deep
instance (o : ORow) (ks : List Int) : Decidable (Fits o ks) := inferInstanceAs (Decidable (∀ j, j < ks.length → ks.getD j 0 = if wantAt o j = -1 then oneAt o ks (j + 1) else wantAt o j))
/-- What the table says of an operation over Kids of one type. -/
def Row_ok (n : Nat) (x k : Int) (m : Nat) : Prop := Fits (oRow n) (List.replicate m x) ∧ givesOf (oRow n) (List.replicate m x) = k ∧ takesH (oRow n).has m = true
instance (n : Nat) (x k : Int) (m : Nat) : Decidable (Row_ok n x k m) := inferInstanceAs (Decidable (_ ∧ _ ∧ _))
theorem sig_row {k op x : Int} {m : Nat} (h : Sig k op x m) (hk : IsTy k) (hx : IsTy x) : ∃ n : Nat, op = (n : Int) ∧ 6 ≤ n ∧ n < 29 ∧ Row_ok n x k m := by
  unfold Sig at h
  rcases h with ⟨rfl, rfl, rfl⟩ | ⟨⟨h1, h2⟩, rfl, rfl, rfl⟩ | ⟨rfl, rfl, rfl, rfl⟩ | ⟨rfl, rfl, rfl, rfl⟩ | ⟨rfl, rfl, rfl, rfl⟩ | ⟨rfl | rfl, rfl, rfl, rfl⟩ | ⟨rfl | rfl, rfl, rfl, rfl⟩ | ⟨rfl, rfl, hx, rfl⟩ | ⟨rfl, rfl, hx, g1, g2⟩ | ⟨⟨h1, h2⟩, rfl, hx, rfl⟩
  · refine ⟨27, rfl, by decide, by decide, ?_⟩
    rcases hk with rfl | rfl | rfl <;> decide
  · have : op = 6 ∨ op = 7 ∨ op = 8 ∨ op = 9 ∨ op = 10 := by omega
    rcases this with rfl | rfl | rfl | rfl | rfl
    · exact ⟨6, rfl, by decide, by decide, by decide⟩
    · exact ⟨7, rfl, by decide, by decide, by decide⟩
    · exact ⟨8, rfl, by decide, by decide, by decide⟩
    · exact ⟨9, rfl, by decide, by decide, by decide⟩
    · exact ⟨10, rfl, by decide, by decide, by decide⟩
  · exact ⟨11, rfl, by decide, by decide, by decide⟩
  · exact ⟨13, rfl, by decide, by decide, by decide⟩
  · exact ⟨12, rfl, by decide, by decide, by decide⟩
  · exact ⟨22, rfl, by decide, by decide, by decide⟩
  · exact ⟨23, rfl, by decide, by decide, by decide⟩
  · exact ⟨24, rfl, by decide, by decide, by decide⟩
  · exact ⟨25, rfl, by decide, by decide, by decide⟩
  · refine ⟨21, rfl, by decide, by decide, ?_⟩
    rcases hx with rfl | rfl | rfl <;> decide
  · refine ⟨28, rfl, by decide, by decide, ?_⟩
    have : m = 2 ∨ m = 3 ∨ m = 4 := by omega
    rcases this with rfl | rfl | rfl <;> rcases hx with rfl | rfl | rfl <;> decide
  · have : op = 14 ∨ op = 15 ∨ op = 16 ∨ op = 17 ∨ op = 18 ∨ op = 19 ∨ op = 20 := by omega
    rcases this with rfl | rfl | rfl | rfl | rfl | rfl | rfl
    · refine ⟨14, rfl, by decide, by decide, ?_⟩
      rcases hx with rfl | rfl | rfl <;> decide
    · refine ⟨15, rfl, by decide, by decide, ?_⟩
      rcases hx with rfl | rfl | rfl <;> decide
    · refine ⟨16, rfl, by decide, by decide, ?_⟩
      rcases hx with rfl | rfl | rfl <;> decide
    · refine ⟨17, rfl, by decide, by decide, ?_⟩
      rcases hx with rfl | rfl | rfl <;> decide
    · refine ⟨18, rfl, by decide, by decide, ?_⟩
      rcases hx with rfl | rfl | rfl <;> decide
    · refine ⟨19, rfl, by decide, by decide, ?_⟩
      rcases hx with rfl | rfl | rfl <;> decide
    · refine ⟨20, rfl, by decide, by decide, ?_⟩
      rcases hx with rfl | rfl | rfl <;> decide
theorem sig_ty {k op x : Int} {m : Nat} (h : Sig k op x m) (hk : IsTy k) : IsTy x := by
  unfold Sig at h
  rcases h with ⟨rfl, rfl, rfl⟩ | ⟨⟨h1, h2⟩, rfl, rfl, rfl⟩ | ⟨rfl, rfl, rfl, rfl⟩ | ⟨rfl, rfl, rfl, rfl⟩ | ⟨rfl, rfl, rfl, rfl⟩ | ⟨rfl | rfl, rfl, rfl, rfl⟩ | ⟨rfl | rfl, rfl, rfl, rfl⟩ | ⟨rfl, rfl, hx, rfl⟩ | ⟨rfl, rfl, hx, g1, g2⟩ | ⟨⟨h1, h2⟩, rfl, hx, rfl⟩
  all_goals first | assumption | exact .inl rfl | exact .inr (.inl rfl) | exact .inr (.inr rfl)
theorem case_row {k : Int} (hk : IsTy k) : Fits (oRow 26) [2, k, k] ∧ givesOf (oRow 26) [2, k, k] = k := by
  rcases hk with rfl | rfl | rfl <;> decide
theorem sig_few' {k op x : Int} {n : Nat} (h : Sig k op x n) : n ≤ 4 := by
  unfold Sig at h; omega
theorem only0 (f : Int) : Only 0 0 ⟨#[]⟩ 0 f := ⟨.inl rfl, .inl rfl, .inl rfl, .inl rfl⟩
theorem const_row {k : Int} {v : Vl} (h : okV k v) (hk : IsTy k) : ∃ n : Nat, cOp v.k = (n : Int) ∧ 1 ≤ n ∧ n < 5 ∧ Only (cTy v.k k) (cNum v.k v.n) (cTxt v.k v.s) 0 (oRow n).has ∧ Perm (cOp v.k) (cTy v.k k) (cNum v.k v.n) (cTxt v.k v.s) ∧ takesH (oRow n).has 0 = true ∧ (cTxt v.k v.s).size ≤ maxLen ∧
    ((n = 1 ∧ k = cTy v.k k) ∨ (n ≠ 1 ∧ n ≠ 5 ∧ Fits (oRow n) [] ∧ givesOf (oRow n) [] = k)) := by
  have hc := okV_const ([] : List Vl) h
  have hsz := okV_size h
  obtain ⟨vk, vn, vs⟩ := v
  obtain ⟨h1, h2⟩ := h
  simp only at h1 h2 hc hsz ⊢
  have hs24 : vs.size ≤ maxLen := by unfold maxLen; omega
  by_cases k0 : vk = 0
  · subst k0
    exact ⟨1, rfl, by decide, by decide, ⟨.inr rfl, .inl rfl, .inl rfl, .inl rfl⟩, .inr (.inl ⟨rfl, hk⟩), rfl, Nat.zero_le _, .inl ⟨rfl, rfl⟩⟩
  · obtain rfl := h1.resolve_left k0
    rcases hk with rfl | rfl | rfl
    · exact ⟨2, rfl, by decide, by decide, ⟨.inl rfl, .inr rfl, .inl rfl, .inl rfl⟩, .inr (.inr ⟨.inl rfl, hc.2⟩), rfl, Nat.zero_le _, .inr ⟨by decide, by decide, by decide, by decide⟩⟩
    · exact ⟨3, rfl, by decide, by decide, ⟨.inl rfl, .inr rfl, .inl rfl, .inl rfl⟩, .inr (.inr ⟨.inr (.inl rfl), hc.2⟩), rfl, Nat.zero_le _, .inr ⟨by decide, by decide, by decide, by decide⟩⟩
    · exact ⟨4, rfl, by decide, by decide, ⟨.inl rfl, .inl rfl, .inr rfl, .inl rfl⟩, .inr (.inr ⟨.inr (.inr rfl), hc.2⟩), rfl, hs24, .inr ⟨by decide, by decide, by decide, by decide⟩⟩
theorem Ex.eta (e : Ex) : e = .mk e.op e.ty e.num e.text e.col e.kids := by cases e; rfl
theorem typeOf_made {ty : List Int} (htys : ∀ c, c < ty.length → IsTy (ty.getD c 0)) {d : Nat} {k : Int} {e : Ex} (h : Made ty d k e) : IsTy k → ∀ (ta : Option Addr) (tlen tcap : Nat) (a : Option Addr) (len cap : Nat) (ok : Nat → Prop) (w : World), NumIn w ta tlen tcap ty → Kids w ok a len cap e.kids → OpsTab w →
    Calls Tryd.prog 32 #[.slice ta tlen tcap, .agg #[.int .i64 e.op, .int .i64 e.ty, .int .i64 e.num, .string e.text, .int .i64 e.col, .slice a len cap]] w fun r w' => r = .returned (.tuple #[.int .i64 k, .int .i64 0]) ∧ Cls w w' := by
  induction h with
  | col k c hc h =>
    intro hk ta tlen tcap a len cap ok w hty hkk ho
    have hl : len = 0 := by have := hkk.len_eq; simpa [Ex.kids] using this.symm
    subst hl
    subst h
    exact typeOf_walk _ 5 rfl (by decide) (by decide) [] _ ty ta tlen tcap a 0 cap ok w hty hkk rfl (by omega) (Nat.zero_le _) ho (fun j hj => absurd hj (by omega)) ⟨.inl rfl, .inl rfl, .inl rfl, .inr rfl⟩ (.inl (by show (5 : Int) ≤ 5; decide)) rfl (.inr (.inl ⟨rfl, c, rfl, by rw [← hty.1]; exact hc, htys c hc, rfl⟩))
  | const k v h =>
    intro hk ta tlen tcap a len cap ok w hty hkk ho
    have hl : len = 0 := by have := hkk.len_eq; simpa [Ex.kids] using this.symm
    subst hl
    obtain ⟨n, hn, h1, h2, h3, h4, h5, h6, h7⟩ := const_row h hk
    exact typeOf_walk (.mk (cOp v.k) (cTy v.k k) (cNum v.k v.n) (cTxt v.k v.s) 0 []) n hn h1 (by omega) [] k ty ta tlen tcap a 0 cap ok w hty hkk rfl (by omega) h6 ho (fun j hj => absurd hj (by omega)) h3 h4 h5 (by
      rcases h7 with h | h
      · exact .inl h
      · exact .inr (.inr h))
  | case k c a b hc ha hb ihc iha ihb =>
    intro hk ta tlen tcap a' len cap ok w hty hkk ho
    have hl : len = 3 := by have := hkk.len_eq; simpa [Ex.node, Ex.kids] using this.symm
    subst hl
    obtain ⟨g1, g2⟩ := case_row hk
    refine typeOf_walk _ 26 rfl (by decide) (by decide) [2, k, k] k ty ta tlen tcap a' 3 cap ok w hty hkk rfl (by omega) (Nat.zero_le _) ho (fun j hj a2 len2 cap2 W g3 g4 g5 => ?_) (only0 _) (.inl (by show (5 : Int) ≤ 26; decide)) rfl (.inr (.inr ⟨by decide, by decide, g1, g2⟩))
    rcases (by omega : j = 0 ∨ j = 1 ∨ j = 2) with rfl | rfl | rfl
    · exact ihc (.inr (.inl rfl)) ta tlen tcap a2 len2 cap2 ok W g3 g4 g5
    · exact iha hk ta tlen tcap a2 len2 cap2 ok W g3 g4 g5
    · exact ihb hk ta tlen tcap a2 len2 cap2 ok W g3 g4 g5
  | node k op x l h hl2 ih =>
    intro hk ta tlen tcap a' len cap ok w hty hkk ho
    have hl : l.length = len := hkk.len_eq
    subst hl
    have hx := sig_ty h hk
    have h4 := sig_few' h
    obtain ⟨n, rfl, h1, h2, g1, g2, g3⟩ := sig_row h hk hx
    refine typeOf_walk _ n rfl (by omega) h2 (List.replicate l.length x) k ty ta tlen tcap a' l.length cap ok w hty hkk (by simp) (by omega) (Nat.zero_le _) ho (fun j hj a2 len2 cap2 W g4 g5 g6 => ?_) (only0 _) (.inl (by show (5 : Int) ≤ (n : Int); omega)) g3 (.inr (.inr ⟨by omega, by omega, g1, g2⟩))
    have hm : l.getD j Ex.z ∈ l := getD_mem hj
    have := ih _ hm hx ta tlen tcap a2 len2 cap2 ok W g4 g5 g6
    rw [show (List.replicate l.length x).getD j 0 = x by simp [List.getD, hj]]
    exact this
theorem sizL_le {l : List Ex} {M : Nat} (h : ∀ e ∈ l, sizE e ≤ M) : sizL l ≤ l.length * M := by
  induction l with
  | nil => simp [sizL]
  | cons k r ih =>
    have h1 := h k (by simp)
    have h2 := ih (fun e he => h e (by simp [he]))
    rw [sizL, List.length_cons, Nat.succ_mul]
    omega
theorem depL_le {l : List Ex} {M : Nat} (h : ∀ e ∈ l, depE e ≤ M) : depL l ≤ M := by
  induction l with
  | nil => simp [depL]
  | cons k r ih =>
    have h1 := h k (by simp)
    have h2 := ih (fun e he => h e (by simp [he]))
    rw [depL]
    omega
theorem Made.bounds {ty : List Int} {d : Nat} {k : Int} {e : Ex} (h : Made ty d k e) : depE e ≤ d + 1 ∧ sizE e ≤ 5 ^ (d + 1) := by
  induction h with
  | col k c hc h => exact ⟨by simp [depE, depL], by simp only [sizE, sizL]; exact Nat.one_le_pow _ _ (by decide)⟩
  | const k v h => exact ⟨by simp [depE, depL], by simp only [sizE, sizL]; exact Nat.one_le_pow _ _ (by decide)⟩
  | @case d k c a b hc ha hb ihc iha ihb =>
    have hp : 5 ^ (d + 1 + 1) = 5 ^ (d + 1) * 5 := Nat.pow_succ ..
    have h1 : 1 ≤ 5 ^ (d + 1) := Nat.one_le_pow _ _ (by decide)
    simp only [Ex.node, depE, depL, sizE, sizL]
    omega
  | @node d k op x l h hl2 ih =>
    have hp : 5 ^ (d + 1 + 1) = 5 ^ (d + 1) * 5 := Nat.pow_succ ..
    have h1 : 1 ≤ 5 ^ (d + 1) := Nat.one_le_pow _ _ (by decide)
    have h2 := depL_le (fun e he => (ih e he).1)
    have h3 := sizL_le (fun e he => (ih e he).2)
    have h4 := sig_few' h
    have h5 : l.length * 5 ^ (d + 1) ≤ 4 * 5 ^ (d + 1) := Nat.mul_le_mul_right _ h4
    simp only [Ex.node, depE, sizE]
    omega
/-- What Type gives for an expression that the tape made. -/
def tyK (k : Int) (e : Ex) : Int := if sizE e ≤ 200 then k else 0
def tyErr (e : Ex) : Int := if sizE e ≤ 200 then 0 else 8
set_option maxHeartbeats 2000000 in
theorem Type_made {ty : List Int} (htys : ∀ c, c < ty.length → IsTy (ty.getD c 0)) {d : Nat} {k : Int} {e : Ex} (h : Made ty d k e) (hk : IsTy k) (hd : d ≤ 6) (ta : Option Addr) (tlen tcap : Nat) (a : Option Addr) (len cap : Nat) (ok : Nat → Prop) (w : World) (hty : NumIn w ta tlen tcap ty) (hkk : Kids w ok a len cap e.kids) (ho : OpsTab w) :
    Calls Tryd.prog 11 #[.slice ta tlen tcap, .agg #[.int .i64 e.op, .int .i64 e.ty, .int .i64 e.num, .string e.text, .int .i64 e.col, .slice a len cap]] w fun r w' => r = .returned (.tuple #[.int .i64 (tyK k e), .int .i64 (tyErr e)]) ∧ Cls w w' := by
  obtain ⟨hb1, hb2⟩ := h.bounds
  have hb3 : sizE e ≤ 1000000 := Nat.le_trans hb2 (Nat.le_trans (Nat.pow_le_pow_right (by decide) (show d + 1 ≤ 7 by omega)) (by decide))
  obtain ⟨u1, u2, u3⟩ := upE_bd e 200 (by decide)
  have C1 : Hid (∀ W, Below w.heap.size w W → Calls Tryd.prog 30 #[.int .i64 200, .agg #[.int .i64 e.op, .int .i64 e.ty, .int .i64 e.num, .string e.text, .int .i64 e.col, .slice a len cap]] W fun r w' => r = .returned (.int .i64 (upE e 200)) ∧ Cls W w') := Lib.hid (fun W hW => sizeUpTo_calls e 200 a len cap ok W (hkk.later hW) hb3 (by decide) (by decide))
  have C2 : Hid (∀ W, Below w.heap.size w W → Calls Tryd.prog 31 #[.agg #[.int .i64 e.op, .int .i64 e.ty, .int .i64 e.num, .string e.text, .int .i64 e.col, .slice a len cap]] W fun r w' => r = .returned (.int .i64 (depE e : Nat)) ∧ Cls W w') := Lib.hid (fun W hW => Depth_calls e a len cap ok W (hkk.later hW) (by omega))
  have C3 : Hid (∀ W, Below w.heap.size w W → Calls Tryd.prog 32 #[.slice ta tlen tcap, .agg #[.int .i64 e.op, .int .i64 e.ty, .int .i64 e.num, .string e.text, .int .i64 e.col, .slice a len cap]] W fun r w' => r = .returned (.tuple #[.int .i64 k, .int .i64 0]) ∧ Cls W w') := Lib.hid (fun W hW => typeOf_made htys h hk ta tlen tcap a len cap ok W (hty.later hW) (hkk.later hW) (ho.later hW))
  have d2 : decide (24 < ((depE e : Nat) : Int)) = false := by simp; omega
  by_cases hs : sizE e ≤ 200
  · have d1 : decide (200 < upE e 200) = false := by simp; omega
    have HK1 : Hid (tyK k e = k) := Lib.hid (if_pos hs)
    have HK2 : Hid (tyErr e = 0) := Lib.hid (if_pos hs)
    clear h hty hkk ho hs u1 u2 u3 hb1 hb2 hb3
    generalize upE e 200 = u at *
    generalize depE e = dd at *
    go_enter Tryd.func11, Tryd.ntmps11
    go_wp2_with (first | (go_at_call 30; ((with_reducible refine (C1.out _ ?_).mono ?_); (· (repeat first | with_reducible exact Below.refl _ _ | with_reducible refine Below.setCell ?_ (by first | omega | (simp; done) | (simp; omega)) _ | with_reducible refine Below.alloc ?_ (by first | omega | (simp; done) | (simp; omega)) _ | with_reducible refine Below.drew ?_ | with_reducible refine Ext.on _ ?_ (by first | omega | (simp; done) | (simp; omega)))); rintro r _ ⟨rfl, y1, rfl⟩; obtain ⟨l1, l2, l3, l4, l5⟩ := y1.lts (b := w.heap.size) (by simp))) | (go_at_call 31; ((with_reducible refine (C2.out _ ?_).mono ?_); (· (repeat first | with_reducible exact Below.refl _ _ | with_reducible refine Below.setCell ?_ (by first | omega | (simp; done) | (simp; omega)) _ | with_reducible refine Below.alloc ?_ (by first | omega | (simp; done) | (simp; omega)) _ | with_reducible refine Below.drew ?_ | with_reducible refine Ext.on _ ?_ (by first | omega | (simp; done) | (simp; omega)))); rintro r _ ⟨rfl, y2, rfl⟩; obtain ⟨m1, m2, m3, m4, m5⟩ := y2.lts l1)) | (go_at_call 32; ((with_reducible refine (C3.out _ ?_).mono ?_); (· (repeat first | with_reducible exact Below.refl _ _ | with_reducible refine Below.setCell ?_ (by first | omega | (simp; done) | (simp; omega)) _ | with_reducible refine Below.alloc ?_ (by first | omega | (simp; done) | (simp; omega)) _ | with_reducible refine Below.drew ?_ | with_reducible refine Ext.on _ ?_ (by first | omega | (simp; done) | (simp; omega)))); rintro r _ ⟨rfl, y3, rfl⟩)))
    go_ret2
    refine ⟨by rw [HK1.out, HK2.out]; rfl, Cls.of ?_⟩
    repeat first | with_reducible exact Below.refl _ _ | with_reducible refine Below.setCell ?_ (by first | omega | (simp; done) | (simp; omega)) _ | with_reducible refine Below.alloc ?_ (by first | omega | (simp; done) | (simp; omega)) _ | with_reducible refine Below.drew ?_ | with_reducible refine Ext.on _ ?_ (by first | omega | (simp; done) | (simp; omega))
  · have d1 : decide (200 < upE e 200) = true := by simp; omega
    have HK1 : Hid (tyK k e = 0) := Lib.hid (if_neg hs)
    have HK2 : Hid (tyErr e = 8) := Lib.hid (if_neg hs)
    clear h hty hkk ho hs u1 u2 u3 hb1 hb2 hb3
    generalize upE e 200 = u at *
    go_enter Tryd.func11, Tryd.ntmps11
    go_wp2_with (first | (go_at_call 30; ((with_reducible refine (C1.out _ ?_).mono ?_); (· (repeat first | with_reducible exact Below.refl _ _ | with_reducible refine Below.setCell ?_ (by first | omega | (simp; done) | (simp; omega)) _ | with_reducible refine Below.alloc ?_ (by first | omega | (simp; done) | (simp; omega)) _ | with_reducible refine Below.drew ?_ | with_reducible refine Ext.on _ ?_ (by first | omega | (simp; done) | (simp; omega)))); rintro r _ ⟨rfl, y1, rfl⟩)))
    go_ret2
    refine ⟨by rw [HK1.out, HK2.out]; rfl, Cls.of ?_⟩
    repeat first | with_reducible exact Below.refl _ _ | with_reducible refine Below.setCell ?_ (by first | omega | (simp; done) | (simp; omega)) _ | with_reducible refine Below.alloc ?_ (by first | omega | (simp; done) | (simp; omega)) _ | with_reducible refine Below.drew ?_ | with_reducible refine Ext.on _ ?_ (by first | omega | (simp; done) | (simp; omega))
end Go.Proofs.YtpddkljedhghkaaDoor
