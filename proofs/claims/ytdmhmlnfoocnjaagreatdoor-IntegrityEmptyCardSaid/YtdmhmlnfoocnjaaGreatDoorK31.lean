/-
  The type of any expression.
-/
import Derived.Test.YtdmhmlnfoocnjaaGreatDoorK28
set_option linter.unusedVariables false
namespace Go.Proofs.YtdmhmlnfoocnjaaGreatDoor
open Go Go.RowKit Go.Deep
def fstI : List Int → Int
  | [] => 0
  | e :: r => if e = 0 then fstI r else e
theorem fstI_stop : ∀ (l : List Int) (j : Nat), (∀ i, i < j → l.getD i 0 = 0) → l.getD j 0 ≠ 0 → fstI l = l.getD j 0
  | [], j, _, h => absurd (by simp) h
  | e :: r, 0, _, h => by
    have h' : e ≠ 0 := h
    rw [fstI, if_neg h']
    rfl
  | e :: r, j + 1, h0, h => by
    have h' : e = 0 := h0 0 (by omega)
    rw [fstI, if_pos h']
    exact fstI_stop r j (fun i hi => h0 (i + 1) (by omega)) h
theorem fstI_all : ∀ (l : List Int), (∀ i, i < l.length → l.getD i 0 = 0) → fstI l = 0
  | [], _ => rfl
  | e :: r, h => by
    have h' : e = 0 := h 0 (by simp)
    rw [fstI, if_pos h']
    exact fstI_all r fun i hi => h (i + 1) (by simpa using hi)
def nodeT (tys : List Int) (op ty num : Int) (text : ByteArray) (col : Int) (ks : List Int) : Int × Int :=
  if op < 1 ∨ 29 ≤ op then (0, 1) else if onlyB ty num text col (oRow op.toNat).has = true then (if permB op ty num text = true then (if takesH (oRow op.toNat).has ks.length = true then (if op = 1 then (ty, 0) else if op = 5 then colT tys col else if (resP (oRow op.toNat) ks).2 = true then ((resP (oRow op.toNat) ks).1, 0) else (0, 4)) else (0, 9)) else (0, 1)) else (0, 1)
theorem nodeT_no {tys : List Int} {op ty num : Int} {text : ByteArray} {col : Int} {ks : List Int} (h : op < 1 ∨ 29 ≤ op) : nodeT tys op ty num text col ks = (0, 1) := if_pos h
theorem nodeT_yes {tys : List Int} {n : Nat} {ty num : Int} {text : ByteArray} {col : Int} {ks : List Int} (h1 : 1 ≤ n) (h2 : n < 29) : nodeT tys (n : Nat) ty num text col ks =
    if onlyB ty num text col (oRow n).has = true then (if permB (n : Nat) ty num text = true then (if takesH (oRow n).has ks.length = true then (if n = 1 then (ty, 0) else if n = 5 then colT tys col else if (resP (oRow n) ks).2 = true then ((resP (oRow n) ks).1, 0) else (0, 4)) else (0, 9)) else (0, 1)) else (0, 1) := by
  unfold nodeT
  rw [if_neg (by omega), Int.toNat_natCast]
  have e1 : (((n : Nat) : Int) = 1) = (n = 1) := by simp; omega
  have e5 : (((n : Nat) : Int) = 5) = (n = 5) := by simp; omega
  simp only [e1, e5]
set_option maxHeartbeats 16000000 in
set_option maxRecDepth 20000 in
theorem typeOfG_walk (e : Ex) (ks es : List Int) (tys : List Int) (ta : Option Addr) (tlen tcap : Nat) (a : Option Addr) (len cap : Nat) (ok : Nat → Prop) (w : World)
    (hty : NumIn w ta tlen tcap tys) (hk : Kids w ok a len cap e.kids) (hks : ks.length = len) (hes : es.length = len) (hl12 : len ≤ 1000000) (hs : e.text.size ≤ maxLen) (ho : OpsTab w)
    (ih : ∀ j, j < len → ∀ (a' : Option Addr) (len' cap' : Nat) (W : World), NumIn W ta tlen tcap tys → Kids W ok a' len' cap' (e.kids.getD j Ex.z).kids → OpsTab W →
      Calls Tryz.prog 135 #[.slice ta tlen tcap, .agg #[.int .i64 (e.kids.getD j Ex.z).op, .int .i64 (e.kids.getD j Ex.z).ty, .int .i64 (e.kids.getD j Ex.z).num, .string (e.kids.getD j Ex.z).text, .int .i64 (e.kids.getD j Ex.z).col, .slice a' len' cap']] W fun r w' => r = .returned (.tuple #[.int .i64 (ks.getD j 0), .int .i64 (es.getD j 0)]) ∧ Cls W w') :
    Calls Tryz.prog 135 #[.slice ta tlen tcap, .agg #[.int .i64 e.op, .int .i64 e.ty, .int .i64 e.num, .string e.text, .int .i64 e.col, .slice a len cap]] w fun r w' => r = .returned (.tuple #[.int .i64 (if fstI es = 0 then nodeT tys e.op e.ty e.num e.text e.col ks else (0, fstI es)).1, .int .i64 (if fstI es = 0 then nodeT tys e.op e.ty e.num e.text e.col ks else (0, fstI es)).2]) ∧ Cls w w' := by
  obtain ⟨i0, hi, hz0, hz1, hz2⟩ := info_parts infoI
  have hle := hk.le
  have hmax := hk.max
  unfold maxLen at hmax
  have HKS := Lib.hid hks
  have HES := Lib.hid hes
  have HK := Lib.hid hk
  have HI := Lib.hid ih
  have HY := Lib.hid hty
  have HO := Lib.hid ho
  have HT0 : Hid (fstI es = 0 → (if fstI es = 0 then nodeT tys e.op e.ty e.num e.text e.col ks else (0, fstI es)) = nodeT tys e.op e.ty e.num e.text e.col ks) := Lib.hid fun h => if_pos h
  have HT1 : Hid (fstI es ≠ 0 → (if fstI es = 0 then nodeT tys e.op e.ty e.num e.text e.col ks else (0, fstI es)) = (0, fstI es)) := Lib.hid fun h => if_neg h
  generalize (if fstI es = 0 then nodeT tys e.op e.ty e.num e.text e.col ks else (0, fstI es)) = rt at HT0 HT1 ⊢
  have HNO : Hid ((e.op < 1 ∨ 29 ≤ e.op) → nodeT tys e.op e.ty e.num e.text e.col ks = (0, 1)) := Lib.hid nodeT_no
  have HYE : Hid (∀ n : Nat, e.op = (n : Int) → 1 ≤ n → n < 29 → nodeT tys e.op e.ty e.num e.text e.col ks = if onlyB e.ty e.num e.text e.col (oRow n).has = true then (if permB e.op e.ty e.num e.text = true then (if takesH (oRow n).has len = true then (if n = 1 then (e.ty, 0) else if n = 5 then colT tys e.col else if (resP (oRow n) ks).2 = true then ((resP (oRow n) ks).1, 0) else (0, 4)) else (0, 9)) else (0, 1)) else (0, 1)) := Lib.hid fun n hn h1 h2 => by rw [hn, nodeT_yes h1 h2, hks]
  have CFN : Hid ((e.op < 1 ∨ 29 ≤ e.op) → ∀ W, Below w.heap.size w W → Calls Tryz.prog 117 #[.int .i64 e.op] W fun r w' => r = .returned (.tuple #[.agg #[.string ⟨#[]⟩, .int .i64 0, .int .i64 0, .int .i64 0, .int .i64 0], .bool false]) ∧ Cls W w') := Lib.hid fun h W _ => find_no e.op W h
  have CFY : Hid (∀ n : Nat, e.op = (n : Int) → 1 ≤ n → n < 29 → ∀ W, Below w.heap.size w W → Calls Tryz.prog 117 #[.int .i64 e.op] W fun r w' => r = .returned (.tuple #[.agg #[.string ⟨(oRow n).word.toArray⟩, .int .i64 (oRow n).has, .int .i64 (oRow n).first, .int .i64 (oRow n).others, .int .i64 (oRow n).gives], .bool true]) ∧ Cls W w') := Lib.hid fun n hn h1 h2 W hW => by rw [hn]; exact find_yes n W h1 h2 (ho.later hW)
  have CO0 : Hid (∀ f W, Calls Tryz.prog 152 #[.agg #[.int .i64 e.op, .int .i64 e.ty, .int .i64 e.num, .string e.text, .int .i64 e.col, .slice a len cap], .int .i64 f] W fun r w' => r = .returned (.bool (onlyB e.ty e.num e.text e.col f)) ∧ Cls W w') := Lib.hid fun f W => hasOnlyG_calls _ _ _ _ _ a len cap f W
  have CP0 : Hid (∀ W, Calls Tryz.prog 153 #[.agg #[.int .i64 e.op, .int .i64 e.ty, .int .i64 e.num, .string e.text, .int .i64 e.col, .slice a len cap]] W fun r w' => r = .returned (.bool (permB e.op e.ty e.num e.text)) ∧ Cls W w') := Lib.hid fun W => permittedG_calls e a len cap W hs
  have CT0 : Hid (∀ n, 1 ≤ n → n < 29 → ∀ W, Calls Tryz.prog 118 #[.agg #[.string ⟨(oRow n).word.toArray⟩, .int .i64 (oRow n).has, .int .i64 (oRow n).first, .int .i64 (oRow n).others, .int .i64 (oRow n).gives], .int .i64 (len : Nat)] W fun r w' => r = .returned (.bool (takesH (oRow n).has len)) ∧ Cls W w') := Lib.hid fun n h1 h2 W => takes_calls (oRow n) len W (has_ok n h1 h2)
  have CR0 : Hid (∀ n (ka : Option Addr) (kc : Nat) W, NumIn W ka len kc ks → Calls Tryz.prog 155 #[.agg #[.string ⟨(oRow n).word.toArray⟩, .int .i64 (oRow n).has, .int .i64 (oRow n).first, .int .i64 (oRow n).others, .int .i64 (oRow n).gives], .slice ka len kc] W fun r w' => r = .returned (.tuple #[.int .i64 (resP (oRow n) ks).1, .bool (resP (oRow n) ks).2]) ∧ Cls W w') := Lib.hid fun n ka kc W h => resultG_calls (oRow n) ks ka len kc W h
  have CC0 : Hid (∀ W, Below w.heap.size w W → Calls Tryz.prog 154 #[.slice ta tlen tcap, .int .i64 e.col] W fun r w' => r = .returned (.tuple #[.int .i64 (colT tys e.col).1, .int .i64 (colT tys e.col).2]) ∧ Cls W w') := Lib.hid fun W hW => columnTypeG_calls tys e.col ta tlen tcap W (hty.later hW)
  clear hty hk hks hes ho ih hs
  go_enter Tryz.func135, Tryz.ntmps135
  go_wp2_with (at_make; refine wpList_make_own _ rfl _ _ 22 rfl (w.heap.size + 1) 3 i0 (.int .i64 0) 1 Tryz.underlying22 hi hz0 hz1 _ _ _ len rfl rfl rfl (by rw [hz2]; omega) (by unfold maxLen; omega) (by simp) ?_; intro w1 hown hg; have HOWN := Lib.hid hown; clear hown; obtain ⟨x1, rfl⟩ := cls_made hg; clear hg)
  go_loopw [6, 21] (fun u i wr => ∃ j : Nat, j ≤ len ∧ i = .int .i64 j ∧ (∀ i, i < j → es.getD i 0 = 0) ∧ wr.ownsRow (w.heap.size + 1) 3 1 u (ks.take j).length (flatI (ks.take j)) ∧ Cls (w.alloc (.cells #[.int .i64 e.op, .int .i64 e.ty, .int .i64 e.num, .string e.text, .int .i64 e.col, .slice a len cap] 64)) wr) (fun _ i _ => len - (intOf i).toNat)
  case atStart => exact ⟨0, Nat.zero_le _, rfl, fun i hi => absurd hi (Nat.not_lt_zero _), by simpa [flatI] using HOWN.out, x1, rfl⟩
  case round =>
    clear HOWN
    obtain ⟨j, hj, rfl, hz, hown, x, rfl⟩ := hrel
    have HOW := Lib.hid hown
    have HZ := Lib.hid hz
    clear hown hz
    have xs := x.size
    simp at xs
    have HTL : Hid ((ks.take j).length = j) := Lib.hid (by rw [List.length_take, HKS.out]; omega)
    by_cases hlt : j < len
    · obtain ⟨a', len', cap', ⟨b, off, rfl, hb, hok, q0, q1, q2, q3, q4, q5⟩, hfine, hk'⟩ := HK.out.at_ hlt
      have hb1 : b < w.heap.size + 1 := by omega
      have C1 : Hid (∀ W, Below w.heap.size w W → Calls Tryz.prog 135 #[.slice ta tlen tcap, .agg #[.int .i64 (e.kids.getD j Ex.z).op, .int .i64 (e.kids.getD j Ex.z).ty, .int .i64 (e.kids.getD j Ex.z).num, .string (e.kids.getD j Ex.z).text, .int .i64 (e.kids.getD j Ex.z).col, .slice a' len' cap']] W fun r w' => r = .returned (.tuple #[.int .i64 (ks.getD j 0), .int .i64 (es.getD j 0)]) ∧ Cls W w') := Lib.hid (fun W hW => HI.out j hlt a' len' cap' W (HY.out.later hW) (hk'.later hW) (HO.out.later hW))
      have HTS := Lib.hid (take_snocI (l := ks) (j := j) (by rw [HKS.out]; exact hlt))
      have HST : Hid (es.getD j 0 ≠ 0 → fstI es = es.getD j 0) := Lib.hid fun h => fstI_stop es j HZ.out h
      have HZ1 : Hid (es.getD j 0 = 0 → ∀ i, i < j + 1 → es.getD i 0 = 0) := Lib.hid fun h i hi => by
        by_cases e : i = j
        · rw [e]; exact h
        · exact HZ.out i (by omega)
      clear hk' hfine hok
      generalize ks.getD j 0 = kj at C1 HTS
      generalize es.getD j 0 = ej0 at C1 HST HZ1
      generalize e.kids.getD j Ex.z = ej at *
      by_cases hej : ej0 = 0
      · have HZ2 := Lib.hid (HZ1.out hej)
        subst hej
        go_wp2_with (first | (go_at_call 135; ((with_reducible refine (C1.out _ ?_).mono ?_); (· (repeat first|with_reducible exact Below.refl _ _|with_reducible refine Below.setCell ?_ (by first|omega|(simp;done)|(simp;omega)) _|with_reducible refine Below.alloc ?_ (by first|omega|(simp;done)|(simp;omega)) _|with_reducible refine Below.drew ?_|with_reducible refine Ext.on _ ?_ (by first|omega|(simp;done)|(simp;omega)))); rintro r _ ⟨rfl, y, rfl⟩; have ys := y.size; simp at ys)) | (at_builtin; refine wpList_append_own_at _ rfl _ _ 22 rfl (w.heap.size + 1) 3 i0 (.int .i64 0) 1 8 Tryz.underlying22 hi hz0 hz1 hz2 rfl (by decide) _ (ks.take j).length (flatI (ks.take j)) rfl (own_later2 HOW.out (by repeat first|with_reducible exact Below.refl _ _|with_reducible refine Below.setCell ?_ (by first|omega|(simp;done)|(simp;omega)) _|with_reducible refine Below.alloc ?_ (by first|omega|(simp;done)|(simp;omega)) _|with_reducible refine Below.drew ?_|with_reducible refine Ext.on _ ?_ (by first|omega|(simp;done)|(simp;omega)))) ⟨y.val.heap.size, 0, none⟩ 1 1 [.int .i64 kj] rfl rfl (fun j u hu => by have h9 := cells_new' y.val [.int .i64 kj] 3 j u hu; simpa using h9) (int_one _) (by have := HTL.out; unfold maxLen; omega) (by have := HTL.out; omega) (by simp; omega) ?_; intro v3 w3 hown3 hg3 _ hat3; have HO3 := Lib.hid hown3; have HG := Lib.hid hg3; clear hown3 hg3 hat3))
        go_roundw
        case rel =>
          refine ⟨j + 1, by omega, by go_num, HZ2.out, by rw [HTS.out, List.length_append, flatI_append]; exact HO3.out, Cls.of (Below.mono (Below.grown (w := y.val.alloc _) ?_ HG.out (by simp; omega) (fun k hk => (HOW.out.lt k hk).1)) (by simp))⟩
          repeat first|with_reducible exact Below.refl _ _|with_reducible refine Below.setCell ?_ (by first|omega|(simp;done)|(simp;omega)) _|with_reducible refine Below.alloc ?_ (by first|omega|(simp;done)|(simp;omega)) _|with_reducible refine Below.drew ?_|with_reducible refine Ext.on _ ?_ (by first|omega|(simp;done)|(simp;omega))
        case measure => simp [intOf]; omega
      · have hrt : rt = (0, ej0) := by
          have e1 := HST.out hej
          rw [HT1.out (by rw [e1]; exact hej), e1]
        have HRT := Lib.hid hrt
        have b1 : (ej0 == 0) = false := by simp [hej]
        have b2 : (ej0 != 0) = true := by simp [hej]
        clear hej hrt
        go_wp2_with (go_at_call 135; ((with_reducible refine (C1.out _ ?_).mono ?_); (· (repeat first|with_reducible exact Below.refl _ _|with_reducible refine Below.setCell ?_ (by first|omega|(simp;done)|(simp;omega)) _|with_reducible refine Below.alloc ?_ (by first|omega|(simp;done)|(simp;omega)) _|with_reducible refine Below.drew ?_|with_reducible refine Ext.on _ ?_ (by first|omega|(simp;done)|(simp;omega)))); rintro r _ ⟨rfl, y, rfl⟩; have ys := y.size; simp at ys))
        go_ret2
        rw [HRT.out]
        refine ⟨rfl, Cls.of ?_⟩
        repeat first|with_reducible exact Below.refl _ _|with_reducible refine Below.setCell ?_ (by first|omega|(simp;done)|(simp;omega)) _|with_reducible refine Below.alloc ?_ (by first|omega|(simp;done)|(simp;omega)) _|with_reducible refine Below.drew ?_|with_reducible refine Ext.on _ ?_ (by first|omega|(simp;done)|(simp;omega))
    · have hj2 : j = len := by omega
      subst hj2
      obtain ⟨ka, kc, hu, hnum⟩ := numIn_own HOW.out (by omega)
      have htake : ks.take j = ks := List.take_of_length_le (by rw [HKS.out]; omega)
      rw [htake, HKS.out] at hu hnum
      have HNU := Lib.hid hnum
      have hkc : j ≤ kc ∧ kc ≤ maxLen := ⟨hnum.2.1, hnum.2.2.1⟩
      unfold maxLen at hkc
      have hf0 : fstI es = 0 := fstI_all es fun i hi => HZ.out i (by have := HES.out; omega)
      have HR0 := Lib.hid (HT0.out hf0)
      clear hnum htake HOW HTL HI HK hf0 HT0 HT1 HZ
      subst hu
      obtain ⟨g1, g2, g3, g4, g5⟩ := x.lts (b := w.heap.size) (by simp)
      by_cases hop : e.op < 1 ∨ 29 ≤ e.op
      · have HRT := Lib.hid (HR0.out.trans (HNO.out hop))
        have CF := Lib.hid (CFN.out hop)
        clear HR0 HNO CFN CFY HYE hop
        go_wp2_with (go_at_call 117; ((with_reducible refine (CF.out _ ?_).mono ?_); (· (repeat first|with_reducible exact Below.refl _ _|with_reducible refine Below.setCell ?_ (by first|omega|(simp;done)|(simp;omega)) _|with_reducible refine Below.alloc ?_ (by first|omega|(simp;done)|(simp;omega)) _|with_reducible refine Below.drew ?_|with_reducible refine Ext.on _ ?_ (by first|omega|(simp;done)|(simp;omega)))); rintro r _ ⟨rfl, y, rfl⟩; obtain ⟨l1, l2, l3, l4, l5⟩ := y.lts g1; have yS1 := y.size; (try simp at yS1)))
        go_ret2
        rw [HRT.out]
        refine ⟨rfl, Cls.of ?_⟩
        repeat first|with_reducible exact Below.refl _ _|with_reducible refine Below.setCell ?_ (by first|omega|(simp;done)|(simp;omega)) _|with_reducible refine Below.alloc ?_ (by first|omega|(simp;done)|(simp;omega)) _|with_reducible refine Below.drew ?_|with_reducible refine Ext.on _ ?_ (by first|omega|(simp;done)|(simp;omega))
      · obtain ⟨n, hn⟩ : ∃ n : Nat, e.op = (n : Int) := ⟨e.op.toNat, by omega⟩
        have h1 : 1 ≤ n := by omega
        have h2 : n < 29 := by omega
        have HN := Lib.hid hn
        have HR1 := Lib.hid (HR0.out.trans (HYE.out n hn h1 h2))
        have CF := Lib.hid (CFY.out n hn h1 h2)
        have CO := Lib.hid (CO0.out (oRow n).has)
        have CP := Lib.hid CP0.out
        have CT := Lib.hid (CT0.out n h1 h2)
        have CR := Lib.hid (CR0.out n)
        have CC := Lib.hid CC0.out
        clear HR0 HNO CFN CFY HYE hop CO0 CP0 CT0 CR0 CC0 hn
        generalize onlyB e.ty e.num e.text e.col (oRow n).has = ob at HR1 CO
        generalize permB e.op e.ty e.num e.text = pb at HR1 CP
        generalize takesH (oRow n).has j = tk at HR1 CT
        generalize resP (oRow n) ks = rp at HR1 CR
        generalize colT tys e.col = cp at HR1 CC
        generalize oRow n = o at *
        obtain ⟨word, has, first, others, gives⟩ := o
        simp only at CF CO CT CR
        cases ob
        · have HRT : Hid (rt = (0, 1)) := Lib.hid HR1.out
          clear HR1
          go_wp2_with (first | (go_at_call 117; ((with_reducible refine (CF.out _ ?_).mono ?_); (· (repeat first|with_reducible exact Below.refl _ _|with_reducible refine Below.setCell ?_ (by first|omega|(simp;done)|(simp;omega)) _|with_reducible refine Below.alloc ?_ (by first|omega|(simp;done)|(simp;omega)) _|with_reducible refine Below.drew ?_|with_reducible refine Ext.on _ ?_ (by first|omega|(simp;done)|(simp;omega)))); rintro r _ ⟨rfl, y, rfl⟩; obtain ⟨l1, l2, l3, l4, l5⟩ := y.lts g1; have yS1 := y.size; (try simp at yS1))) | (go_at_call 152; ((with_reducible refine (CO.out _).mono ?_); rintro r _ ⟨rfl, y2, rfl⟩; obtain ⟨m1, m2, m3, m4, m5⟩ := y2.lts (b := w.heap.size) (by simp; omega); obtain ⟨n1, n2, n3, n4, n5⟩ := y2.lts (b := y.val.heap.size) (by simp); have yS2 := y2.size; (try simp at yS2))))
          go_ret2
          rw [HRT.out]
          refine ⟨rfl, Cls.of ?_⟩
          repeat first|with_reducible exact Below.refl _ _|with_reducible refine Below.setCell ?_ (by first|omega|(simp;done)|(simp;omega)) _|with_reducible refine Below.alloc ?_ (by first|omega|(simp;done)|(simp;omega)) _|with_reducible refine Below.drew ?_|with_reducible refine Ext.on _ ?_ (by first|omega|(simp;done)|(simp;omega))
        · cases pb
          · have HRT : Hid (rt = (0, 1)) := Lib.hid HR1.out
            clear HR1
            go_wp2_with (first | (go_at_call 117; ((with_reducible refine (CF.out _ ?_).mono ?_); (· (repeat first|with_reducible exact Below.refl _ _|with_reducible refine Below.setCell ?_ (by first|omega|(simp;done)|(simp;omega)) _|with_reducible refine Below.alloc ?_ (by first|omega|(simp;done)|(simp;omega)) _|with_reducible refine Below.drew ?_|with_reducible refine Ext.on _ ?_ (by first|omega|(simp;done)|(simp;omega)))); rintro r _ ⟨rfl, y, rfl⟩; obtain ⟨l1, l2, l3, l4, l5⟩ := y.lts g1; have yS1 := y.size; (try simp at yS1))) | (go_at_call 152; ((with_reducible refine (CO.out _).mono ?_); rintro r _ ⟨rfl, y2, rfl⟩; obtain ⟨m1, m2, m3, m4, m5⟩ := y2.lts (b := w.heap.size) (by simp; omega); obtain ⟨n1, n2, n3, n4, n5⟩ := y2.lts (b := y.val.heap.size) (by simp); have yS2 := y2.size; (try simp at yS2))) | (go_at_call 153; ((with_reducible refine (CP.out _).mono ?_); rintro r _ ⟨rfl, y3, rfl⟩; obtain ⟨o1, o2, o3, o4, o5⟩ := y3.lts m1; obtain ⟨p1, p2, p3, p4, p5⟩ := y3.lts n1; have yS3 := y3.size; (try simp at yS3))))
            go_ret2
            rw [HRT.out]
            refine ⟨rfl, Cls.of ?_⟩
            repeat first|with_reducible exact Below.refl _ _|with_reducible refine Below.setCell ?_ (by first|omega|(simp;done)|(simp;omega)) _|with_reducible refine Below.alloc ?_ (by first|omega|(simp;done)|(simp;omega)) _|with_reducible refine Below.drew ?_|with_reducible refine Ext.on _ ?_ (by first|omega|(simp;done)|(simp;omega))
          · cases tk
            · have HRT : Hid (rt = (0, 9)) := Lib.hid HR1.out
              clear HR1
              go_wp2_with (first | (go_at_call 117; ((with_reducible refine (CF.out _ ?_).mono ?_); (· (repeat first|with_reducible exact Below.refl _ _|with_reducible refine Below.setCell ?_ (by first|omega|(simp;done)|(simp;omega)) _|with_reducible refine Below.alloc ?_ (by first|omega|(simp;done)|(simp;omega)) _|with_reducible refine Below.drew ?_|with_reducible refine Ext.on _ ?_ (by first|omega|(simp;done)|(simp;omega)))); rintro r _ ⟨rfl, y, rfl⟩; obtain ⟨l1, l2, l3, l4, l5⟩ := y.lts g1; have yS1 := y.size; (try simp at yS1))) | (go_at_call 152; ((with_reducible refine (CO.out _).mono ?_); rintro r _ ⟨rfl, y2, rfl⟩; obtain ⟨m1, m2, m3, m4, m5⟩ := y2.lts (b := w.heap.size) (by simp; omega); obtain ⟨n1, n2, n3, n4, n5⟩ := y2.lts (b := y.val.heap.size) (by simp); have yS2 := y2.size; (try simp at yS2))) | (go_at_call 153; ((with_reducible refine (CP.out _).mono ?_); rintro r _ ⟨rfl, y3, rfl⟩; obtain ⟨o1, o2, o3, o4, o5⟩ := y3.lts m1; obtain ⟨p1, p2, p3, p4, p5⟩ := y3.lts n1; have yS3 := y3.size; (try simp at yS3))) | (go_at_call 118; ((with_reducible refine (CT.out _).mono ?_); rintro r _ ⟨rfl, y4, rfl⟩; obtain ⟨r1, r2, r3, r4, r5⟩ := y4.lts o1; obtain ⟨s1, s2, s3, s4, s5⟩ := y4.lts p1; have yS4 := y4.size; (try simp at yS4))))
              go_ret2
              rw [HRT.out]
              refine ⟨rfl, Cls.of ?_⟩
              repeat first|with_reducible exact Below.refl _ _|with_reducible refine Below.setCell ?_ (by first|omega|(simp;done)|(simp;omega)) _|with_reducible refine Below.alloc ?_ (by first|omega|(simp;done)|(simp;omega)) _|with_reducible refine Below.drew ?_|with_reducible refine Ext.on _ ?_ (by first|omega|(simp;done)|(simp;omega))
            · have HR2 : Hid (rt = if n = 1 then (e.ty, 0) else if n = 5 then cp else if rp.2 = true then (rp.1, 0) else (0, 4)) := Lib.hid HR1.out
              clear HR1
              by_cases n1 : n = 1
              · have HRT : Hid (rt = (e.ty, 0)) := Lib.hid (by rw [HR2.out, if_pos n1])
                have b1 : (e.op == 1) = true := by rw [HN.out, n1]; rfl
                clear HR2 n1
                go_wp2_with (first | (go_at_call 117; ((with_reducible refine (CF.out _ ?_).mono ?_); (· (repeat first|with_reducible exact Below.refl _ _|with_reducible refine Below.setCell ?_ (by first|omega|(simp;done)|(simp;omega)) _|with_reducible refine Below.alloc ?_ (by first|omega|(simp;done)|(simp;omega)) _|with_reducible refine Below.drew ?_|with_reducible refine Ext.on _ ?_ (by first|omega|(simp;done)|(simp;omega)))); rintro r _ ⟨rfl, y, rfl⟩; obtain ⟨l1, l2, l3, l4, l5⟩ := y.lts g1; have yS1 := y.size; (try simp at yS1))) | (go_at_call 152; ((with_reducible refine (CO.out _).mono ?_); rintro r _ ⟨rfl, y2, rfl⟩; obtain ⟨m1, m2, m3, m4, m5⟩ := y2.lts (b := w.heap.size) (by simp; omega); obtain ⟨n1, n2, n3, n4, n5⟩ := y2.lts (b := y.val.heap.size) (by simp); have yS2 := y2.size; (try simp at yS2))) | (go_at_call 153; ((with_reducible refine (CP.out _).mono ?_); rintro r _ ⟨rfl, y3, rfl⟩; obtain ⟨o1, o2, o3, o4, o5⟩ := y3.lts m1; obtain ⟨p1, p2, p3, p4, p5⟩ := y3.lts n1; have yS3 := y3.size; (try simp at yS3))) | (go_at_call 118; ((with_reducible refine (CT.out _).mono ?_); rintro r _ ⟨rfl, y4, rfl⟩; obtain ⟨r1, r2, r3, r4, r5⟩ := y4.lts o1; obtain ⟨s1, s2, s3, s4, s5⟩ := y4.lts p1; have yS4 := y4.size; (try simp at yS4))))
                go_ret2
                rw [HRT.out]
                refine ⟨rfl, Cls.of ?_⟩
                repeat first|with_reducible exact Below.refl _ _|with_reducible refine Below.setCell ?_ (by first|omega|(simp;done)|(simp;omega)) _|with_reducible refine Below.alloc ?_ (by first|omega|(simp;done)|(simp;omega)) _|with_reducible refine Below.drew ?_|with_reducible refine Ext.on _ ?_ (by first|omega|(simp;done)|(simp;omega))
              · have b1 : (e.op == 1) = false := by rw [HN.out]; simp; omega
                by_cases n5 : n = 5
                · have HRT : Hid (rt = cp) := Lib.hid (by rw [HR2.out, if_neg n1, if_pos n5])
                  have b5 : (e.op == 5) = true := by rw [HN.out, n5]; rfl
                  clear HR2 n1 n5
                  go_wp2_with (first | (go_at_call 117; ((with_reducible refine (CF.out _ ?_).mono ?_); (· (repeat first|with_reducible exact Below.refl _ _|with_reducible refine Below.setCell ?_ (by first|omega|(simp;done)|(simp;omega)) _|with_reducible refine Below.alloc ?_ (by first|omega|(simp;done)|(simp;omega)) _|with_reducible refine Below.drew ?_|with_reducible refine Ext.on _ ?_ (by first|omega|(simp;done)|(simp;omega)))); rintro r _ ⟨rfl, y, rfl⟩; obtain ⟨l1, l2, l3, l4, l5⟩ := y.lts g1; have yS1 := y.size; (try simp at yS1))) | (go_at_call 152; ((with_reducible refine (CO.out _).mono ?_); rintro r _ ⟨rfl, y2, rfl⟩; obtain ⟨m1, m2, m3, m4, m5⟩ := y2.lts (b := w.heap.size) (by simp; omega); obtain ⟨n1, n2, n3, n4, n5⟩ := y2.lts (b := y.val.heap.size) (by simp); have yS2 := y2.size; (try simp at yS2))) | (go_at_call 153; ((with_reducible refine (CP.out _).mono ?_); rintro r _ ⟨rfl, y3, rfl⟩; obtain ⟨o1, o2, o3, o4, o5⟩ := y3.lts m1; obtain ⟨p1, p2, p3, p4, p5⟩ := y3.lts n1; have yS3 := y3.size; (try simp at yS3))) | (go_at_call 118; ((with_reducible refine (CT.out _).mono ?_); rintro r _ ⟨rfl, y4, rfl⟩; obtain ⟨r1, r2, r3, r4, r5⟩ := y4.lts o1; obtain ⟨s1, s2, s3, s4, s5⟩ := y4.lts p1; have yS4 := y4.size; (try simp at yS4))) | (go_at_call 154; ((with_reducible refine (CC.out _ ?_).mono ?_); (· (repeat first|with_reducible exact Below.refl _ _|with_reducible refine Below.setCell ?_ (by first|omega|(simp;done)|(simp;omega)) _|with_reducible refine Below.alloc ?_ (by first|omega|(simp;done)|(simp;omega)) _|with_reducible refine Below.drew ?_|with_reducible refine Ext.on _ ?_ (by first|omega|(simp;done)|(simp;omega)))); rintro r _ ⟨rfl, y5, rfl⟩)))
                  go_ret2
                  rw [HRT.out]
                  refine ⟨rfl, Cls.of ?_⟩
                  repeat first|with_reducible exact Below.refl _ _|with_reducible refine Below.setCell ?_ (by first|omega|(simp;done)|(simp;omega)) _|with_reducible refine Below.alloc ?_ (by first|omega|(simp;done)|(simp;omega)) _|with_reducible refine Below.drew ?_|with_reducible refine Ext.on _ ?_ (by first|omega|(simp;done)|(simp;omega))
                · have b5 : (e.op == 5) = false := by rw [HN.out]; simp; omega
                  obtain ⟨rk, rb⟩ := rp
                  simp only at HR2 CR
                  cases rb
                  · have HRT : Hid (rt = (0, 4)) := Lib.hid (by rw [HR2.out, if_neg n1, if_neg n5]; rfl)
                    clear HR2 n1 n5
                    go_wp2_with (first | (go_at_call 117; ((with_reducible refine (CF.out _ ?_).mono ?_); (· (repeat first|with_reducible exact Below.refl _ _|with_reducible refine Below.setCell ?_ (by first|omega|(simp;done)|(simp;omega)) _|with_reducible refine Below.alloc ?_ (by first|omega|(simp;done)|(simp;omega)) _|with_reducible refine Below.drew ?_|with_reducible refine Ext.on _ ?_ (by first|omega|(simp;done)|(simp;omega)))); rintro r _ ⟨rfl, y, rfl⟩; obtain ⟨l1, l2, l3, l4, l5⟩ := y.lts g1; have yS1 := y.size; (try simp at yS1))) | (go_at_call 152; ((with_reducible refine (CO.out _).mono ?_); rintro r _ ⟨rfl, y2, rfl⟩; obtain ⟨m1, m2, m3, m4, m5⟩ := y2.lts (b := w.heap.size) (by simp; omega); obtain ⟨n1, n2, n3, n4, n5⟩ := y2.lts (b := y.val.heap.size) (by simp); have yS2 := y2.size; (try simp at yS2))) | (go_at_call 153; ((with_reducible refine (CP.out _).mono ?_); rintro r _ ⟨rfl, y3, rfl⟩; obtain ⟨o1, o2, o3, o4, o5⟩ := y3.lts m1; obtain ⟨p1, p2, p3, p4, p5⟩ := y3.lts n1; have yS3 := y3.size; (try simp at yS3))) | (go_at_call 118; ((with_reducible refine (CT.out _).mono ?_); rintro r _ ⟨rfl, y4, rfl⟩; obtain ⟨r1, r2, r3, r4, r5⟩ := y4.lts o1; obtain ⟨s1, s2, s3, s4, s5⟩ := y4.lts p1; have yS4 := y4.size; (try simp at yS4))) | (go_at_call 155; ((with_reducible refine (CR.out ka kc _ (HNU.out.later ?_)).mono ?_); (· (repeat first|with_reducible exact Below.refl _ _|with_reducible refine Below.setCell ?_ (by first|omega|(simp;done)|(simp;omega)) _|with_reducible refine Below.alloc ?_ (by first|omega|(simp;done)|(simp;omega)) _|with_reducible refine Below.drew ?_|with_reducible refine Ext.on _ ?_ (by first|omega|(simp;done)|(simp;omega)))); rintro r _ ⟨rfl, y5, rfl⟩)))
                    go_ret2
                    rw [HRT.out]
                    refine ⟨rfl, Cls.of ?_⟩
                    repeat first|with_reducible exact Below.refl _ _|with_reducible refine Below.setCell ?_ (by first|omega|(simp;done)|(simp;omega)) _|with_reducible refine Below.alloc ?_ (by first|omega|(simp;done)|(simp;omega)) _|with_reducible refine Below.drew ?_|with_reducible refine Ext.on _ ?_ (by first|omega|(simp;done)|(simp;omega))
                  · have HRT : Hid (rt = (rk, 0)) := Lib.hid (by rw [HR2.out, if_neg n1, if_neg n5]; rfl)
                    clear HR2 n1 n5
                    go_wp2_with (first | (go_at_call 117; ((with_reducible refine (CF.out _ ?_).mono ?_); (· (repeat first|with_reducible exact Below.refl _ _|with_reducible refine Below.setCell ?_ (by first|omega|(simp;done)|(simp;omega)) _|with_reducible refine Below.alloc ?_ (by first|omega|(simp;done)|(simp;omega)) _|with_reducible refine Below.drew ?_|with_reducible refine Ext.on _ ?_ (by first|omega|(simp;done)|(simp;omega)))); rintro r _ ⟨rfl, y, rfl⟩; obtain ⟨l1, l2, l3, l4, l5⟩ := y.lts g1; have yS1 := y.size; (try simp at yS1))) | (go_at_call 152; ((with_reducible refine (CO.out _).mono ?_); rintro r _ ⟨rfl, y2, rfl⟩; obtain ⟨m1, m2, m3, m4, m5⟩ := y2.lts (b := w.heap.size) (by simp; omega); obtain ⟨n1, n2, n3, n4, n5⟩ := y2.lts (b := y.val.heap.size) (by simp); have yS2 := y2.size; (try simp at yS2))) | (go_at_call 153; ((with_reducible refine (CP.out _).mono ?_); rintro r _ ⟨rfl, y3, rfl⟩; obtain ⟨o1, o2, o3, o4, o5⟩ := y3.lts m1; obtain ⟨p1, p2, p3, p4, p5⟩ := y3.lts n1; have yS3 := y3.size; (try simp at yS3))) | (go_at_call 118; ((with_reducible refine (CT.out _).mono ?_); rintro r _ ⟨rfl, y4, rfl⟩; obtain ⟨r1, r2, r3, r4, r5⟩ := y4.lts o1; obtain ⟨s1, s2, s3, s4, s5⟩ := y4.lts p1; have yS4 := y4.size; (try simp at yS4))) | (go_at_call 155; ((with_reducible refine (CR.out ka kc _ (HNU.out.later ?_)).mono ?_); (· (repeat first|with_reducible exact Below.refl _ _|with_reducible refine Below.setCell ?_ (by first|omega|(simp;done)|(simp;omega)) _|with_reducible refine Below.alloc ?_ (by first|omega|(simp;done)|(simp;omega)) _|with_reducible refine Below.drew ?_|with_reducible refine Ext.on _ ?_ (by first|omega|(simp;done)|(simp;omega)))); rintro r _ ⟨rfl, y5, rfl⟩)))
                    go_ret2
                    rw [HRT.out]
                    refine ⟨rfl, Cls.of ?_⟩
                    repeat first|with_reducible exact Below.refl _ _|with_reducible refine Below.setCell ?_ (by first|omega|(simp;done)|(simp;omega)) _|with_reducible refine Below.alloc ?_ (by first|omega|(simp;done)|(simp;omega)) _|with_reducible refine Below.drew ?_|with_reducible refine Ext.on _ ?_ (by first|omega|(simp;done)|(simp;omega))
end Go.Proofs.YtdmhmlnfoocnjaaGreatDoor
