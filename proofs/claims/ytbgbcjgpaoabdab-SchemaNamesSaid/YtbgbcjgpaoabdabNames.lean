/-
  Which strings are names: the program's Name and the reference's give one and the same Bool for every string.
-/
import Derived.Test.YtbgbcjgpaoabdabChecked
import Derived.Test.YtbgbcjgpaoabdabTail
import Derived.Deep.Slices
import Derived.Deep.Strs
import Derived.ProofKit
import Derived.Lib.Strings
import Derived.Lib.Hide
import Derived.LoopTactic
import Derived.BigQuiet
import Derived.Deep.QuietTactic
set_option linter.unusedVariables false
namespace Go.Proofs.Ytbgbcjgpaoabdab
open Go Go.RowKit Go.Deep
def wordsB : List ByteArray := [⟨#[115, 101, 108, 101, 99, 116]⟩, ⟨#[100, 105, 115, 116, 105, 110, 99, 116]⟩, ⟨#[97, 108, 108]⟩, ⟨#[102, 114, 111, 109]⟩, ⟨#[119, 104, 101, 114, 101]⟩, ⟨#[103, 114, 111, 117, 112]⟩, ⟨#[98, 121]⟩, ⟨#[104, 97, 118, 105, 110, 103]⟩, ⟨#[97, 115]⟩, ⟨#[111, 110]⟩, ⟨#[117, 110, 105, 111, 110]⟩, ⟨#[101, 120, 99, 101, 112, 116]⟩, ⟨#[105, 110, 116, 101, 114, 115, 101, 99, 116]⟩, ⟨#[106, 111, 105, 110]⟩, ⟨#[105, 110, 110, 101, 114]⟩, ⟨#[108, 101, 102, 116]⟩, ⟨#[114, 105, 103, 104, 116]⟩, ⟨#[102, 117, 108, 108]⟩, ⟨#[99, 114, 111, 115, 115]⟩, ⟨#[115, 101, 109, 105]⟩, ⟨#[97, 110, 116, 105]⟩, ⟨#[97, 110, 100]⟩, ⟨#[111, 114]⟩, ⟨#[110, 111, 116]⟩, ⟨#[105, 115]⟩, ⟨#[110, 117, 108, 108]⟩, ⟨#[116, 114, 117, 101]⟩, ⟨#[102, 97, 108, 115, 101]⟩, ⟨#[105, 110]⟩, ⟨#[99, 97, 115, 101]⟩, ⟨#[119, 104, 101, 110]⟩, ⟨#[116, 104, 101, 110]⟩, ⟨#[101, 108, 115, 101]⟩, ⟨#[101, 110, 100]⟩, ⟨#[118, 97, 108, 117, 101, 115]⟩, ⟨#[116, 97, 98, 108, 101]⟩, ⟨#[112, 114, 105, 109, 97, 114, 121]⟩, ⟨#[117, 110, 105, 113, 117, 101]⟩, ⟨#[102, 111, 114, 101, 105, 103, 110]⟩, ⟨#[114, 101, 102, 101, 114, 101, 110, 99, 101, 115]⟩, ⟨#[99, 104, 101, 99, 107]⟩, ⟨#[105, 110, 116]⟩, ⟨#[98, 111, 111, 108]⟩, ⟨#[116, 101, 120, 116]⟩, ⟨#[99, 111, 117, 110, 116]⟩, ⟨#[115, 117, 109]⟩, ⟨#[109, 105, 110]⟩, ⟨#[109, 97, 120]⟩, ⟨#[99, 111, 97, 108, 101, 115, 99, 101]⟩, ⟨#[108, 101, 110, 103, 116, 104]⟩, ⟨#[115, 97, 109, 101]⟩, ⟨#[109, 111, 100]⟩]
def words : List (List UInt8) := [[115, 101, 108, 101, 99, 116], [100, 105, 115, 116, 105, 110, 99, 116], [97, 108, 108], [102, 114, 111, 109], [119, 104, 101, 114, 101], [103, 114, 111, 117, 112], [98, 121], [104, 97, 118, 105, 110, 103], [97, 115], [111, 110], [117, 110, 105, 111, 110], [101, 120, 99, 101, 112, 116], [105, 110, 116, 101, 114, 115, 101, 99, 116], [106, 111, 105, 110], [105, 110, 110, 101, 114], [108, 101, 102, 116], [114, 105, 103, 104, 116], [102, 117, 108, 108], [99, 114, 111, 115, 115], [115, 101, 109, 105], [97, 110, 116, 105], [97, 110, 100], [111, 114], [110, 111, 116], [105, 115], [110, 117, 108, 108], [116, 114, 117, 101], [102, 97, 108, 115, 101], [105, 110], [99, 97, 115, 101], [119, 104, 101, 110], [116, 104, 101, 110], [101, 108, 115, 101], [101, 110, 100], [118, 97, 108, 117, 101, 115], [116, 97, 98, 108, 101], [112, 114, 105, 109, 97, 114, 121], [117, 110, 105, 113, 117, 101], [102, 111, 114, 101, 105, 103, 110], [114, 101, 102, 101, 114, 101, 110, 99, 101, 115], [99, 104, 101, 99, 107], [105, 110, 116], [98, 111, 111, 108], [116, 101, 120, 116], [99, 111, 117, 110, 116], [115, 117, 109], [109, 105, 110], [109, 97, 120], [99, 111, 97, 108, 101, 115, 99, 101], [108, 101, 110, 103, 116, 104], [115, 97, 109, 101], [109, 111, 100]]
theorem words_len : words.length = 52 := rfl
/-- Is it a reserved word? -/
def resB (s : ByteArray) : Bool := words.any fun x => s.toList == x
def letB (c : Int) : Bool := decide (97 ≤ c) && decide (c ≤ 122)
def digB (c : Int) : Bool := decide (48 ≤ c) && decide (c ≤ 57)
def okB (c : UInt8) : Bool := letB c.toNat || digB c.toNat || ((c.toNat : Int) == 95)
/-- Is it a name? -/
def nameB (s : ByteArray) : Bool :=
  if s.size = 0 then false else if 16 < s.size then false else if letB ((s.data.toList.getD 0 0).toNat) = false then false
  else if (s.data.toList.drop 1).all okB = false then false else !resB s
set_option maxHeartbeats 2000000 in
set_option maxRecDepth 20000 in
theorem letter_calls (c : Int) (w : World) : Calls Try.prog 21 #[.int .u8 c] w fun e w' => e = .returned (.bool (letB c)) ∧ Cls w w' := by
  go_enter Try.func21, Try.ntmps21
  go_wp2_with fail
  all_goals
    go_ret
    refine ⟨ret_bool (by rw [Bool.eq_iff_iff]; simp [letB]; try omega), Cls.of ?_⟩
    repeat first | with_reducible exact Below.refl _ _ | with_reducible refine Below.setCell ?_ (by first | omega | (simp; done) | (simp; omega)) _ | with_reducible refine Below.alloc ?_ (by first | omega | (simp; done) | (simp; omega)) _ | with_reducible refine Below.drew ?_ | with_reducible refine Ext.on _ ?_ (by first | omega | (simp; done) | (simp; omega))
set_option maxHeartbeats 2000000 in
set_option maxRecDepth 20000 in
theorem digit_calls (c : Int) (w : World) : Calls Try.prog 22 #[.int .u8 c] w fun e w' => e = .returned (.bool (digB c)) ∧ Cls w w' := by
  go_enter Try.func22, Try.ntmps22
  go_wp2_with fail
  all_goals
    go_ret
    refine ⟨ret_bool (by rw [Bool.eq_iff_iff]; simp [digB]; try omega), Cls.of ?_⟩
    repeat first | with_reducible exact Below.refl _ _ | with_reducible refine Below.setCell ?_ (by first | omega | (simp; done) | (simp; omega)) _ | with_reducible refine Below.alloc ?_ (by first | omega | (simp; done) | (simp; omega)) _ | with_reducible refine Below.drew ?_ | with_reducible refine Ext.on _ ?_ (by first | omega | (simp; done) | (simp; omega))
set_option maxHeartbeats 8000000 in
set_option maxRecDepth 20000 in
theorem reserved_calls (s : ByteArray) (w : World) : Calls Try.prog 23 #[.string s] w fun e w' => e = .returned (.bool (resB s)) ∧ Cls w w' := by
  go_enter Try.func23, Try.ntmps23
  go_wp2_with fail
  all_goals first
    | (rename_i h1 h2; rw [h1] at h2; exact absurd h2 (by decide))
    | (go_ret
       refine ⟨ret_bool (by simp only [resB, words, List.any_cons, List.any_nil, Bool.true_or, Bool.or_true, Bool.or_false, *]), Cls.of ?_⟩
       repeat first | with_reducible exact Below.refl _ _ | with_reducible refine Below.setCell ?_ (by first | omega | (simp; done) | (simp; omega)) _ | with_reducible refine Below.alloc ?_ (by first | omega | (simp; done) | (simp; omega)) _ | with_reducible refine Below.drew ?_ | with_reducible refine Ext.on _ ?_ (by first | omega | (simp; done) | (simp; omega)))
end Go.Proofs.Ytbgbcjgpaoabdab
