/-
  SchemaOrders: what the law does, whatever schema it is given.
-/
import Derived.Test.YtilnnpeknkjjmaaORef
import Derived.Test.YtilnnpeknkjjmaaFew3
import Derived.Test.YtilnnpeknkjjmaaSameL
import Derived.Test.YtilnnpeknkjjmaaOpenS
set_option linter.unusedVariables false
namespace Go.Proofs.Ytilnnpeknkjjmaa
open Go Go.RowKit Go.Deep
/-- Two results that are both Order's are the same error, and lists of the same numbers. -/
def BothIs (r r' : Ending) (w' : World) (w'' : World) : Prop := ∃ (s s' : Sl) (g : Nat → Int) (e : Int), r = .returned (.tuple #[.slice s.a s.len s.cap, .int .i64 e]) ∧ r' = .returned (.tuple #[.slice s'.a s'.len s'.cap, .int .i64 e]) ∧ s.len = s'.len ∧ SlAt w' 1 s (intC g) ∧ SlAt w'' 1 s' (intC g)
theorem sl_z_any {w : World} {g : Nat → Int} : SlAt w 1 Sl.z (intC g) := ⟨Nat.le_refl _, Nat.zero_le _, fun _ => ⟨rfl, rfl⟩, fun i hi => absurd hi (Nat.not_lt_zero _)⟩
theorem both_of {sl : Sl} {tb : Nat → Tb} {w w' v v' : World} {r r' : Ending} (h : OrdIs sl tb w r w') (h' : OrdIs sl tb v r' v') : BothIs r r' w' v' ∧ Cls w w' ∧ Cls v v' := by
  rcases h with ⟨a, rfl, c⟩ | ⟨a, b, rfl, c⟩ | ⟨a, b, s, rfl, hs, hat, c⟩ <;> rcases h' with ⟨a', rfl, c'⟩ | ⟨a', b', rfl, c'⟩ | ⟨a', b', s', rfl, hs', hat', c'⟩
  · exact ⟨⟨Sl.z, Sl.z, fun _ => 0, 11, rfl, rfl, rfl, sl_z_any, sl_z_any⟩, c, c'⟩
  · exact absurd a' a
  · exact absurd a' a
  · exact absurd a a'
  · exact ⟨⟨Sl.z, Sl.z, fun _ => 0, 7, rfl, rfl, rfl, sl_z_any, sl_z_any⟩, c, c'⟩
  · omega
  · exact absurd a a'
  · omega
  · exact ⟨⟨s, s', _, 0, rfl, rfl, hs.trans hs'.symm, hat, hat'⟩, c, c'⟩
theorem ord_form {sl : Sl} {tb : Nat → Tb} {w w' : World} {r : Ending} (h : OrdIs sl tb w r w') : ∃ (a : Option Addr) (n c : Nat) (e : Int), r = .returned (.tuple #[.slice a n c, .int .i64 e]) ∧ OrdIs sl tb w (.returned (.tuple #[.slice a n c, .int .i64 e])) w' ∧ Cls w w' := by
  have h0 := h
  rcases h with ⟨a, rfl, c⟩ | ⟨a, b, rfl, c⟩ | ⟨a, b, s, rfl, hs, hat, c⟩
  · exact ⟨_, _, _, _, rfl, h0, c⟩
  · exact ⟨_, _, _, _, rfl, h0, c⟩
  · exact ⟨_, _, _, _, rfl, h0, c⟩
theorem ord_both {sl : Sl} {tb : Nat → Tb} {w w' v v' : World} {a a' : Option Addr} {n n' c c' : Nat} {e e' : Int} (h : OrdIs sl tb w (.returned (.tuple #[.slice a n c, .int .i64 e])) w') (h' : OrdIs sl tb v (.returned (.tuple #[.slice a' n' c', .int .i64 e'])) v') :
    e = e' ∧ n = n' ∧ ∃ g : Nat → Int, SlAt w' 1 ⟨a, n, c⟩ (intC g) ∧ SlAt v' 1 ⟨a', n', c'⟩ (intC g) := by
  obtain ⟨⟨s, s', g, e0, h1, h2, h3, h4, h5⟩, _, _⟩ := both_of h h'
  simp only [Ending.returned.injEq, Value.tuple.injEq, Array.mk.injEq, List.cons.injEq, Value.slice.injEq, Value.int.injEq, true_and, and_true] at h1 h2
  obtain ⟨⟨rfl, rfl, rfl⟩, rfl⟩ := h1
  obtain ⟨⟨rfl, rfl, rfl⟩, rfl⟩ := h2
  exact ⟨rfl, h3, g, h4, h5⟩
set_option maxHeartbeats 8000000 in
set_option maxRecDepth 20000 in
theorem schemaOrders_walk (sl : Sl) (tb : Nat → Tb) (w : World) (h : TabsAt w sl tb) :
    Calls Try.prog 3 #[.agg #[.slice sl.a sl.len sl.cap]] w fun e w' => e = .returned (.bool true) ∧ Below w.heap.size w w' := by
  have hb0 : Below w.heap.size w (w.alloc (.cells #[.slice sl.a sl.len sl.cap] 24)) := (Below.refl _ _).alloc (Nat.le_refl _) _
  have C0 := Lib.hid (Few3_calls sl tb (w.alloc (.cells #[.slice sl.a sl.len sl.cap] 24)) (h.later hb0))
  have H := Lib.hid (h.later hb0)
  have H1 : Hid ((w.alloc (.cells #[.slice sl.a sl.len sl.cap] 24)).heap[w.heap.size]? = some (.cells #[.slice sl.a sl.len sl.cap] 24)) := Lib.hid (heap_alloc_new w _)
  have HB0 := Lib.hid hb0
  clear h hb0
  go_enter Try.func3, Try.ntmps3
  go_wp2_with (go_at_call 4; ((with_reducible refine C0.out.mono ?_); rintro r _ ⟨fb, rfl, hfew, x, rfl⟩; have HFew := Lib.hid hfew; clear hfew; cases fb))
  · go_ret
    refine ⟨rfl, ?_⟩
    exact HB0.out.trans (x.below.mono (by simp))
  · have hxs := x.size
    simp at hxs
    obtain ⟨hn, hfs⟩ := HFew.out trivial
    have hx1 := (x.below.block w.heap.size (by simp)).trans H1.out
    obtain ⟨bs1, _, k1⟩ := one_z hx1
    have HX := Lib.hid hx1
    have C1 := Lib.hid (Order_calls sl tb x.val (H.out.later x.below) hn (fun i hi => (hfs i hi).2))
    clear hx1
    go_wp2_with (first | (go_at_call 5; ((with_reducible refine C1.out.mono ?_); rintro r1 w1 hq1; obtain ⟨a1, n1, c1, e1, rfl, ho1, y, rfl⟩ := ord_form hq1; have HQ1 := Lib.hid ho1; clear ho1 hq1; have ys := y.size; have hx2 := (y.below.block w.heap.size (by omega)).trans HX.out; obtain ⟨bs2, _, k2⟩ := one_z hx2; have HX2 := Lib.hid hx2; clear hx2)) | (go_at_call 6; ((with_reducible refine (rOrder_calls sl tb y.val ((H.out.later x.below).later y.below) hn (fun i hi => (hfs i hi).2)).mono ?_); rintro r2 w2 hq2; obtain ⟨a2, n2, c2, e2, rfl, ho2, z, rfl⟩ := ord_form hq2; obtain ⟨rfl, rfl, g, hg1, hg2⟩ := ord_both HQ1.out ho2; have HG1 := Lib.hid (hg1.later z.below); have HG2 := Lib.hid hg2; clear hg1 hg2 ho2 hq2)) | (go_at_call 7; ((with_reducible refine (same_calls ⟨a1, n1, c1⟩ ⟨a2, n1, c2⟩ g z.val HG1.out HG2.out rfl).mono ?_); rintro r3 w3 ⟨rfl, q, rfl⟩)))
    go_ret
    refine ⟨rfl, ?_⟩
    exact HB0.out.trans ((x.below.trans ((y.below.trans ((z.below.trans (q.below.mono z.size)).mono y.size)).mono x.size)).mono (by simp))
end Go.Proofs.Ytilnnpeknkjjmaa
