/-
  One level of the program's typeOf: its loop over the Kids, and what it asks of the operation.
-/
import Derived.Test.YtonlmhehddbhoaaDoorJ23
import Derived.Test.YtonlmhehddbhoaaDoorJ17
set_option linter.unusedVariables false
namespace Go.Proofs.YtonlmhehddbhoaaDoor
open Go Go.RowKit Go.Deep
theorem NumIn.of {T : Nat} {w : World} {a : Option Addr} {len cap : Nat} {l : List Int} (h : IntsAt T w a len cap l) : NumIn w a len cap l := by
  refine ⟨h.1, h.2.1, h.2.2.1, h.2.2.2.imp id ?_⟩
  rintro ⟨b, off, ha, hT, hb, hc⟩
  exact ⟨b, off, ha, hb, hc⟩
theorem numIn_own {w : World} {base : Nat} {v : Value} {l : List Int} (h : w.ownsRow base 3 1 v l.length (flatI l)) (hT : 0 < base) : ∃ a cap, v = .slice a l.length cap ∧ NumIn w a l.length cap l := by
  obtain ⟨a, cap, h1, h2⟩ := intsAt_of h hT
  exact ⟨a, cap, h1, .of h2⟩
theorem own_later2 {w w' : World} {base size n : Nat} {e : TypeId} {v : Value} {xs : List Value} (h : w.ownsRow base e size v n xs) (hb : Below w.heap.size w w') : w'.ownsRow base e size v n xs := by
  refine ⟨h.1, h.2.imp id ?_⟩
  rintro ⟨g, cap, cur, hv, hg, hh, rest⟩
  exact ⟨g, cap, cur, hv, hg, (hb.block g (Array.getElem?_eq_some_iff.1 hh).1).trans hh, rest⟩
theorem cls_made {w w' : World} (hg : w.grownBy w' none) : Cls w w' := Cls.of (Below.grown (w := w) (Below.refl _ _) hg (Nat.le_refl _) (fun k hk => by cases hk))
theorem take_snocI {l : List Int} {j : Nat} (h : j < l.length) : l.take (j + 1) = l.take j ++ [l.getD j 0] := by
  rw [List.take_succ_eq_append_getElem h]
  simp [List.getD, h]
set_option maxHeartbeats 4000000 in
set_option maxRecDepth 20000 in
theorem typeOf_walk (e : Ex) (n : Nat) (hn : e.op = (n : Int)) (h1 : 1 ≤ n) (h2 : n < 29) (ks : List Int) (k : Int) (ty : List Int) (ta : Option Addr) (tlen tcap : Nat) (a : Option Addr) (len cap : Nat) (ok : Nat → Prop) (w : World)
    (hty : NumIn w ta tlen tcap ty) (hk : Kids w ok a len cap e.kids) (hks : ks.length = len) (hl12 : len ≤ 12) (hs : e.text.size ≤ maxLen) (ho : OpsTab w)
    (ih : ∀ j, j < len → ∀ (a' : Option Addr) (len' cap' : Nat) (W : World), NumIn W ta tlen tcap ty → Kids W ok a' len' cap' (e.kids.getD j Ex.z).kids → OpsTab W →
      Calls Tryd.prog 25 #[.slice ta tlen tcap, .agg #[.int .i64 (e.kids.getD j Ex.z).op, .int .i64 (e.kids.getD j Ex.z).ty, .int .i64 (e.kids.getD j Ex.z).num, .string (e.kids.getD j Ex.z).text, .int .i64 (e.kids.getD j Ex.z).col, .slice a' len' cap']] W fun r w' => r = .returned (.tuple #[.int .i64 (ks.getD j 0), .int .i64 0]) ∧ Cls W w')
    (hOnly : Only e.ty e.num e.text e.col (oRow n).has) (hPerm : Perm e.op e.ty e.num e.text) (htk : takesH (oRow n).has len = true)
    (hres : (n = 1 ∧ k = e.ty) ∨ (n = 5 ∧ ∃ c : Nat, e.col = (c : Int) ∧ c < tlen ∧ (ty.getD c 0 = 1 ∨ ty.getD c 0 = 2 ∨ ty.getD c 0 = 3) ∧ ty.getD c 0 = k) ∨ (n ≠ 1 ∧ n ≠ 5 ∧ Fits (oRow n) ks ∧ givesOf (oRow n) ks = k)) :
    Calls Tryd.prog 25 #[.slice ta tlen tcap, .agg #[.int .i64 e.op, .int .i64 e.ty, .int .i64 e.num, .string e.text, .int .i64 e.col, .slice a len cap]] w fun r w' => r = .returned (.tuple #[.int .i64 k, .int .i64 0]) ∧ Cls w w' := by
  obtain ⟨i0, hi, hz0, hz1, hz2⟩ := info_parts infoI
  have hle := hk.le
  have hmax := hk.max
  unfold maxLen at hmax
  have HKS := Lib.hid hks
  have HK := Lib.hid hk
  have HI := Lib.hid ih
  have HY := Lib.hid hty
  have HO := Lib.hid ho
  have HR := Lib.hid hres
  have CF : Hid (∀ W, Below w.heap.size w W → Calls Tryd.prog 26 #[.int .i64 e.op] W fun r w' => r = .returned (.tuple #[.agg #[.string ⟨(oRow n).word.toArray⟩, .int .i64 (oRow n).has, .int .i64 (oRow n).first, .int .i64 (oRow n).others, .int .i64 (oRow n).gives], .bool true]) ∧ Cls W w') := Lib.hid (fun W hW => by rw [hn]; exact find_yes n W h1 h2 (ho.later hW))
  have CO : Hid (∀ W, Calls Tryd.prog 59 #[.agg #[.int .i64 e.op, .int .i64 e.ty, .int .i64 e.num, .string e.text, .int .i64 e.col, .slice a len cap], .int .i64 (oRow n).has] W fun r w' => r = .returned (.bool true) ∧ Cls W w') := Lib.hid (fun W => hasOnly_calls _ _ _ _ _ a len cap _ W hOnly)
  have CP : Hid (∀ W, Calls Tryd.prog 60 #[.agg #[.int .i64 e.op, .int .i64 e.ty, .int .i64 e.num, .string e.text, .int .i64 e.col, .slice a len cap]] W fun r w' => r = .returned (.bool true) ∧ Cls W w') := Lib.hid (fun W => permitted_calls e a len cap W hPerm hs)
  have CT : Hid (∀ W, Calls Tryd.prog 27 #[.agg #[.string ⟨(oRow n).word.toArray⟩, .int .i64 (oRow n).has, .int .i64 (oRow n).first, .int .i64 (oRow n).others, .int .i64 (oRow n).gives], .int .i64 (len : Nat)] W fun r w' => r = .returned (.bool true) ∧ Cls W w') := Lib.hid (fun W => by
    have := takes_calls (oRow n) len W (has_ok n h1 h2)
    rw [htk] at this
    exact this)
  have CR : Hid (∀ (ka : Option Addr) (kc : Nat) W, Fits (oRow n) ks → givesOf (oRow n) ks = k → NumIn W ka len kc ks → Calls Tryd.prog 62 #[.agg #[.string ⟨(oRow n).word.toArray⟩, .int .i64 (oRow n).has, .int .i64 (oRow n).first, .int .i64 (oRow n).others, .int .i64 (oRow n).gives], .slice ka len kc] W fun r w' => r = .returned (.tuple #[.int .i64 k, .bool true]) ∧ Cls W w') := Lib.hid (fun ka kc W g1 g2 g3 => by
    have := result_calls (oRow n) ks ka len kc W g3 g1
    rw [g2] at this
    exact this)
  have HN := Lib.hid hn
  clear hty hk hks ho ih hOnly hPerm htk hres hs
  have HFG : Hid ((n ≠ 1 ∧ n ≠ 5) → Fits (oRow n) ks ∧ givesOf (oRow n) ks = k) := Lib.hid (fun hne => by
    rcases HR.out with ⟨h, _⟩ | ⟨h, _⟩ | ⟨_, _, h⟩
    · exact absurd h hne.1
    · exact absurd h hne.2
    · exact h)
  clear hn
  generalize oRow n = o at *
  generalize Fits o ks = FI at *
  generalize givesOf o ks = gv at *
  obtain ⟨word, has, first, others, gives⟩ := o
  simp only at CF CO CT CR
  go_enter Tryd.func25, Tryd.ntmps25
  go_wp2_with (at_make; refine wpList_make_own _ rfl _ _ 22 rfl (w.heap.size + 1) 3 i0 (.int .i64 0) 1 Tryd.underlying22 hi hz0 hz1 _ _ _ len rfl rfl rfl (by rw [hz2]; omega) (by unfold maxLen; omega) (by simp) ?_; intro w1 hown hg; have HOWN := Lib.hid hown; clear hown; obtain ⟨x1, rfl⟩ := cls_made hg; clear hg)
  go_loopw [6, 21] (fun u i wr => ∃ j : Nat, j ≤ len ∧ i = .int .i64 j ∧ wr.ownsRow (w.heap.size + 1) 3 1 u (ks.take j).length (flatI (ks.take j)) ∧ Cls (w.alloc (.cells #[.int .i64 e.op, .int .i64 e.ty, .int .i64 e.num, .string e.text, .int .i64 e.col, .slice a len cap] 30)) wr) (fun _ i _ => len - (intOf i).toNat)
  case atStart => exact ⟨0, Nat.zero_le _, rfl, by simpa [flatI] using HOWN.out, x1, rfl⟩
  case round =>
    clear HOWN
    obtain ⟨j, hj, rfl, hown, x, rfl⟩ := hrel
    have HOW := Lib.hid hown
    clear hown
    have xs := x.size
    simp at xs
    have HTL : Hid ((ks.take j).length = j) := Lib.hid (by rw [List.length_take, HKS.out]; omega)
    by_cases hlt : j < len
    · obtain ⟨a', len', cap', ⟨b, off, rfl, hb, hok, q0, q1, q2, q3, q4, q5⟩, hfine, hk'⟩ := HK.out.at_ hlt
      have hb1 : b < w.heap.size + 1 := by omega
      have C1 : Hid (∀ W, Below w.heap.size w W → Calls Tryd.prog 25 #[.slice ta tlen tcap, .agg #[.int .i64 (e.kids.getD j Ex.z).op, .int .i64 (e.kids.getD j Ex.z).ty, .int .i64 (e.kids.getD j Ex.z).num, .string (e.kids.getD j Ex.z).text, .int .i64 (e.kids.getD j Ex.z).col, .slice a' len' cap']] W fun r w' => r = .returned (.tuple #[.int .i64 (ks.getD j 0), .int .i64 0]) ∧ Cls W w') := Lib.hid (fun W hW => HI.out j hlt a' len' cap' W (HY.out.later hW) (hk'.later hW) (HO.out.later hW))
      have HTS := Lib.hid (take_snocI (l := ks) (j := j) (by rw [HKS.out]; exact hlt))
      clear hk' hfine hok
      generalize ks.getD j 0 = kj at C1 HTS
      generalize e.kids.getD j Ex.z = ej at *
      go_wp2_with (first | (go_at_call 25; ((with_reducible refine (C1.out _ ?_).mono ?_); (· (repeat first | with_reducible exact Below.refl _ _ | with_reducible refine Below.setCell ?_ (by first | omega | (simp; done) | (simp; omega)) _ | with_reducible refine Below.alloc ?_ (by first | omega | (simp; done) | (simp; omega)) _ | with_reducible refine Below.drew ?_ | with_reducible refine Ext.on _ ?_ (by first | omega | (simp; done) | (simp; omega)))); rintro r _ ⟨rfl, y, rfl⟩; have ys := y.size; simp at ys)) | (at_builtin; refine wpList_append_own_at _ rfl _ _ 22 rfl (w.heap.size + 1) 3 i0 (.int .i64 0) 1 8 Tryd.underlying22 hi hz0 hz1 hz2 rfl (by decide) _ (ks.take j).length (flatI (ks.take j)) rfl (own_later2 HOW.out (by repeat first | with_reducible exact Below.refl _ _ | with_reducible refine Below.setCell ?_ (by first | omega | (simp; done) | (simp; omega)) _ | with_reducible refine Below.alloc ?_ (by first | omega | (simp; done) | (simp; omega)) _ | with_reducible refine Below.drew ?_ | with_reducible refine Ext.on _ ?_ (by first | omega | (simp; done) | (simp; omega)))) ⟨y.val.heap.size, 0, none⟩ 1 1 [.int .i64 kj] rfl rfl (fun j u hu => by have h9 := cells_new' y.val [.int .i64 kj] 3 j u hu; simpa using h9) (int_one _) (by have := HTL.out; unfold maxLen; omega) (by have := HTL.out; omega) (by simp; omega) ?_; intro v3 w3 hown3 hg3 _ hat3; have HO3 := Lib.hid hown3; have HG := Lib.hid hg3; clear hown3 hg3 hat3))
      go_roundw
      case rel =>
        refine ⟨j + 1, by omega, by go_num, by rw [HTS.out, List.length_append, flatI_append]; exact HO3.out, Cls.of (Below.mono (Below.grown (w := y.val.alloc _) ?_ HG.out (by simp; omega) (fun k hk => (HOW.out.lt k hk).1)) (by simp))⟩
        repeat first | with_reducible exact Below.refl _ _ | with_reducible refine Below.setCell ?_ (by first | omega | (simp; done) | (simp; omega)) _ | with_reducible refine Below.alloc ?_ (by first | omega | (simp; done) | (simp; omega)) _ | with_reducible refine Below.drew ?_ | with_reducible refine Ext.on _ ?_ (by first | omega | (simp; done) | (simp; omega))
      case measure => simp [intOf]; omega
    · have hj2 : j = len := by omega
      subst hj2
      obtain ⟨ka, kc, hu, hnum⟩ := numIn_own HOW.out (by omega)
      have htake : ks.take j = ks := List.take_of_length_le (by rw [HKS.out]; omega)
      rw [htake, HKS.out] at hu hnum
      have HNU := Lib.hid hnum
      have hkc : j ≤ kc ∧ kc ≤ maxLen := ⟨hnum.2.1, hnum.2.2.1⟩
      unfold maxLen at hkc
      clear hnum htake HOW HTL HI HK
      subst hu
      obtain ⟨g1, g2, g3, g4, g5⟩ := x.lts (b := w.heap.size) (by simp)
      by_cases n1 : n = 1
      · have b1 : (e.op == 1) = true := by rw [HN.out, n1]; rfl
        have hk1 : k = e.ty := by
          rcases HR.out with ⟨_, h⟩ | ⟨h, _⟩ | ⟨h, _⟩
          · exact h
          · omega
          · exact absurd n1 h
        have HK1 := Lib.hid hk1
        clear hk1 n1
        go_wp2_with (first | (go_at_call 26; ((with_reducible refine (CF.out _ ?_).mono ?_); (· (repeat first | with_reducible exact Below.refl _ _ | with_reducible refine Below.setCell ?_ (by first | omega | (simp; done) | (simp; omega)) _ | with_reducible refine Below.alloc ?_ (by first | omega | (simp; done) | (simp; omega)) _ | with_reducible refine Below.drew ?_ | with_reducible refine Ext.on _ ?_ (by first | omega | (simp; done) | (simp; omega)))); rintro r _ ⟨rfl, y, rfl⟩; obtain ⟨l1, l2, l3, l4, l5⟩ := y.lts g1; have yS1 := y.size; (try simp at yS1))) | (go_at_call 59; ((with_reducible refine (CO.out _).mono ?_); rintro r _ ⟨rfl, y2, rfl⟩; obtain ⟨m1, m2, m3, m4, m5⟩ := y2.lts (b := w.heap.size) (by simp; omega); obtain ⟨n1, n2, n3, n4, n5⟩ := y2.lts (b := y.val.heap.size) (by simp); have yS2 := y2.size; (try simp at yS2))) | (go_at_call 60; ((with_reducible refine (CP.out _).mono ?_); rintro r _ ⟨rfl, y3, rfl⟩; obtain ⟨o1, o2, o3, o4, o5⟩ := y3.lts m1; obtain ⟨p1, p2, p3, p4, p5⟩ := y3.lts n1; have yS3 := y3.size; (try simp at yS3))) | (go_at_call 27; ((with_reducible refine (CT.out _).mono ?_); rintro r _ ⟨rfl, y4, rfl⟩; obtain ⟨r1, r2, r3, r4, r5⟩ := y4.lts o1; obtain ⟨s1, s2, s3, s4, s5⟩ := y4.lts p1; have yS4 := y4.size; (try simp at yS4))))
        go_ret2
        refine ⟨by rw [HK1.out]; rfl, Cls.of ?_⟩
        repeat first | with_reducible exact Below.refl _ _ | with_reducible refine Below.setCell ?_ (by first | omega | (simp; done) | (simp; omega)) _ | with_reducible refine Below.alloc ?_ (by first | omega | (simp; done) | (simp; omega)) _ | with_reducible refine Below.drew ?_ | with_reducible refine Ext.on _ ?_ (by first | omega | (simp; done) | (simp; omega))
      · have b1 : (e.op == 1) = false := by rw [HN.out]; simp; omega
        by_cases n5 : n = 5
        · have b5 : (e.op == 5) = true := by rw [HN.out, n5]; rfl
          obtain ⟨c, hc, hct, hcty, hck⟩ : ∃ c : Nat, e.col = (c : Int) ∧ c < tlen ∧ (ty.getD c 0 = 1 ∨ ty.getD c 0 = 2 ∨ ty.getD c 0 = 3) ∧ ty.getD c 0 = k := by
            rcases HR.out with ⟨h, _⟩ | ⟨_, h⟩ | ⟨_, h, _⟩
            · exact absurd h n1
            · exact h
            · exact absurd n5 h
          have CC : Hid (∀ W, Below w.heap.size w W → Calls Tryd.prog 61 #[.slice ta tlen tcap, .int .i64 e.col] W fun r w' => r = .returned (.tuple #[.int .i64 k, .int .i64 0]) ∧ Cls W w') := Lib.hid (fun W hW => by
            have := columnType_calls ty c ta tlen tcap W (HY.out.later hW) hct hcty
            rw [hck] at this
            rw [hc]
            exact this)
          clear hc hct hcty hck n1 n5
          go_wp2_with (first | (go_at_call 26; ((with_reducible refine (CF.out _ ?_).mono ?_); (· (repeat first | with_reducible exact Below.refl _ _ | with_reducible refine Below.setCell ?_ (by first | omega | (simp; done) | (simp; omega)) _ | with_reducible refine Below.alloc ?_ (by first | omega | (simp; done) | (simp; omega)) _ | with_reducible refine Below.drew ?_ | with_reducible refine Ext.on _ ?_ (by first | omega | (simp; done) | (simp; omega)))); rintro r _ ⟨rfl, y, rfl⟩; obtain ⟨l1, l2, l3, l4, l5⟩ := y.lts g1; have yS1 := y.size; (try simp at yS1))) | (go_at_call 59; ((with_reducible refine (CO.out _).mono ?_); rintro r _ ⟨rfl, y2, rfl⟩; obtain ⟨m1, m2, m3, m4, m5⟩ := y2.lts (b := w.heap.size) (by simp; omega); obtain ⟨n1, n2, n3, n4, n5⟩ := y2.lts (b := y.val.heap.size) (by simp); have yS2 := y2.size; (try simp at yS2))) | (go_at_call 60; ((with_reducible refine (CP.out _).mono ?_); rintro r _ ⟨rfl, y3, rfl⟩; obtain ⟨o1, o2, o3, o4, o5⟩ := y3.lts m1; obtain ⟨p1, p2, p3, p4, p5⟩ := y3.lts n1; have yS3 := y3.size; (try simp at yS3))) | (go_at_call 27; ((with_reducible refine (CT.out _).mono ?_); rintro r _ ⟨rfl, y4, rfl⟩; obtain ⟨r1, r2, r3, r4, r5⟩ := y4.lts o1; obtain ⟨s1, s2, s3, s4, s5⟩ := y4.lts p1; have yS4 := y4.size; (try simp at yS4))) | (go_at_call 61; ((with_reducible refine (CC.out _ ?_).mono ?_); (· (repeat first | with_reducible exact Below.refl _ _ | with_reducible refine Below.setCell ?_ (by first | omega | (simp; done) | (simp; omega)) _ | with_reducible refine Below.alloc ?_ (by first | omega | (simp; done) | (simp; omega)) _ | with_reducible refine Below.drew ?_ | with_reducible refine Ext.on _ ?_ (by first | omega | (simp; done) | (simp; omega)))); rintro r _ ⟨rfl, y5, rfl⟩)))
          go_ret2
          refine ⟨rfl, Cls.of ?_⟩
          repeat first | with_reducible exact Below.refl _ _ | with_reducible refine Below.setCell ?_ (by first | omega | (simp; done) | (simp; omega)) _ | with_reducible refine Below.alloc ?_ (by first | omega | (simp; done) | (simp; omega)) _ | with_reducible refine Below.drew ?_ | with_reducible refine Ext.on _ ?_ (by first | omega | (simp; done) | (simp; omega))
        · have b5 : (e.op == 5) = false := by rw [HN.out]; simp; omega
          obtain ⟨hFI, hgv⟩ := HFG.out ⟨n1, n5⟩
          have HFI := Lib.hid hFI
          have HGV := Lib.hid hgv
          clear hFI hgv n1 n5
          go_wp2_with (first | (go_at_call 26; ((with_reducible refine (CF.out _ ?_).mono ?_); (· (repeat first | with_reducible exact Below.refl _ _ | with_reducible refine Below.setCell ?_ (by first | omega | (simp; done) | (simp; omega)) _ | with_reducible refine Below.alloc ?_ (by first | omega | (simp; done) | (simp; omega)) _ | with_reducible refine Below.drew ?_ | with_reducible refine Ext.on _ ?_ (by first | omega | (simp; done) | (simp; omega)))); rintro r _ ⟨rfl, y, rfl⟩; obtain ⟨l1, l2, l3, l4, l5⟩ := y.lts g1; have yS1 := y.size; (try simp at yS1))) | (go_at_call 59; ((with_reducible refine (CO.out _).mono ?_); rintro r _ ⟨rfl, y2, rfl⟩; obtain ⟨m1, m2, m3, m4, m5⟩ := y2.lts (b := w.heap.size) (by simp; omega); obtain ⟨n1, n2, n3, n4, n5⟩ := y2.lts (b := y.val.heap.size) (by simp); have yS2 := y2.size; (try simp at yS2))) | (go_at_call 60; ((with_reducible refine (CP.out _).mono ?_); rintro r _ ⟨rfl, y3, rfl⟩; obtain ⟨o1, o2, o3, o4, o5⟩ := y3.lts m1; obtain ⟨p1, p2, p3, p4, p5⟩ := y3.lts n1; have yS3 := y3.size; (try simp at yS3))) | (go_at_call 27; ((with_reducible refine (CT.out _).mono ?_); rintro r _ ⟨rfl, y4, rfl⟩; obtain ⟨r1, r2, r3, r4, r5⟩ := y4.lts o1; obtain ⟨s1, s2, s3, s4, s5⟩ := y4.lts p1; have yS4 := y4.size; (try simp at yS4))) | (go_at_call 62; ((with_reducible refine (CR.out ka kc _ HFI.out HGV.out (HNU.out.later ?_)).mono ?_); (· (repeat first | with_reducible exact Below.refl _ _ | with_reducible refine Below.setCell ?_ (by first | omega | (simp; done) | (simp; omega)) _ | with_reducible refine Below.alloc ?_ (by first | omega | (simp; done) | (simp; omega)) _ | with_reducible refine Below.drew ?_ | with_reducible refine Ext.on _ ?_ (by first | omega | (simp; done) | (simp; omega)))); rintro r _ ⟨rfl, y5, rfl⟩)))
          go_ret2
          refine ⟨rfl, Cls.of ?_⟩
          repeat first | with_reducible exact Below.refl _ _ | with_reducible refine Below.setCell ?_ (by first | omega | (simp; done) | (simp; omega)) _ | with_reducible refine Below.alloc ?_ (by first | omega | (simp; done) | (simp; omega)) _ | with_reducible refine Below.drew ?_ | with_reducible refine Ext.on _ ?_ (by first | omega | (simp; done) | (simp; omega))
end Go.Proofs.YtonlmhehddbhoaaDoor
