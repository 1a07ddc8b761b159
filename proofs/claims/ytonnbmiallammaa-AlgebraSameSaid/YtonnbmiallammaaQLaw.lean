/-
  Which queries the laws look at, and that a query differs from one on it.
-/
import Derived.Test.YtonnbmiallammaaQSize
import Derived.Test.YtonnbmiallammaaQRef
set_option linter.unusedVariables false
namespace Go.Proofs.Ytonnbmiallammaa
open Go Go.RowKit Go.Deep
set_option maxHeartbeats 4000000 in
set_option maxRecDepth 20000 in
theorem Few4_calls (q : Qy) (w : World) (h : QAt w q) : Calls Try.prog 17 #[.agg #[.int .i64 q.p.op, .string q.p.table, .int .i64 q.p.kind, .bool q.p.all, .int .i64 q.p.cond.op, .int .i64 q.p.cond.ty, .int .i64 q.p.cond.num, .string q.p.cond.text, .int .i64 q.p.cond.col, .slice q.p.ck.a q.p.ck.len q.p.ck.cap, .slice q.p.es.a q.p.es.len q.p.es.cap, .slice q.p.gs.a q.p.gs.len q.p.gs.cap, .slice q.p.ts.a q.p.ts.len q.p.ts.cap, .slice q.p.rs.a q.p.rs.len q.p.rs.cap, .slice q.ks.a q.ks.len q.ks.cap]] w fun r w' => SomeB w r w' := by
  have C1 : Hid (∀ W, Below w.heap.size w W → Calls Try.prog 29 #[.agg #[.int .i64 q.p.op, .string q.p.table, .int .i64 q.p.kind, .bool q.p.all, .int .i64 q.p.cond.op, .int .i64 q.p.cond.ty, .int .i64 q.p.cond.num, .string q.p.cond.text, .int .i64 q.p.cond.col, .slice q.p.ck.a q.p.ck.len q.p.ck.cap, .slice q.p.es.a q.p.es.len q.p.es.cap, .slice q.p.gs.a q.p.gs.len q.p.gs.cap, .slice q.p.ts.a q.p.ts.len q.p.ts.cap, .slice q.p.rs.a q.p.rs.len q.p.rs.cap, .slice q.ks.a q.ks.len q.ks.cap], .int .i64 0] W fun r w' => SomeB W r w') := Lib.hid (fun W hW => fewQ_calls q 0 W (h.later hW) (by omega))
  have C2 : Hid (∀ W, Below w.heap.size w W → Calls Try.prog 30 #[.agg #[.int .i64 q.p.op, .string q.p.table, .int .i64 q.p.kind, .bool q.p.all, .int .i64 q.p.cond.op, .int .i64 q.p.cond.ty, .int .i64 q.p.cond.num, .string q.p.cond.text, .int .i64 q.p.cond.col, .slice q.p.ck.a q.p.ck.len q.p.ck.cap, .slice q.p.es.a q.p.es.len q.p.es.cap, .slice q.p.gs.a q.p.gs.len q.p.gs.cap, .slice q.p.ts.a q.p.ts.len q.p.ts.cap, .slice q.p.rs.a q.p.rs.len q.p.rs.cap, .slice q.ks.a q.ks.len q.ks.cap]] W fun r w' => SomeI W r w') := Lib.hid (fun W hW => sizeQ_calls q W (h.later hW))
  clear h
  generalize q.p = p at *
  generalize q.ks = ks at *
  go_enter Try.func17, Try.ntmps17
  go_wp2_with (first | (go_at_call 29; ((with_reducible refine (C1.out _ ?_).mono ?_); (· (repeat first | with_reducible exact Below.refl _ _ | with_reducible refine Below.setCell ?_ (by first | omega | (simp; done) | (simp; omega)) _ | with_reducible refine Below.alloc ?_ (by first | omega | (simp; done) | (simp; omega)) _ | with_reducible refine Below.drew ?_ | with_reducible refine Ext.on _ ?_ (by first | omega | (simp; done) | (simp; omega)))); rintro r w2 hq; obtain ⟨b, rfl, z, rfl⟩ := hq; have zs := z.size; simp at zs; cases b)) | (go_at_call 30; ((with_reducible refine (C2.out _ ?_).mono ?_); (· (repeat first | with_reducible exact Below.refl _ _ | with_reducible refine Below.setCell ?_ (by first | omega | (simp; done) | (simp; omega)) _ | with_reducible refine Below.alloc ?_ (by first | omega | (simp; done) | (simp; omega)) _ | with_reducible refine Below.drew ?_ | with_reducible refine Ext.on _ ?_ (by first | omega | (simp; done) | (simp; omega)))); rintro r w2 hq; obtain ⟨n, rfl, z2, rfl⟩ := hq)))
  all_goals
    go_ret
    refine ⟨_, rfl, Cls.of ?_⟩
    repeat first | with_reducible exact Below.refl _ _ | with_reducible refine Below.setCell ?_ (by first | omega | (simp; done) | (simp; omega)) _ | with_reducible refine Below.alloc ?_ (by first | omega | (simp; done) | (simp; omega)) _ | with_reducible refine Below.drew ?_ | with_reducible refine Ext.on _ ?_ (by first | omega | (simp; done) | (simp; omega))
theorem sameQ_more : ∀ (a b : Qy), b.ks.len = 1 → b.kid 0 = a → sameQ a b = false := by
  intro a
  induction a with
  | nil => intro b _ _; rfl
  | mk p ks kid ih =>
    intro b hb hk
    cases hs : sameQ (.mk p ks kid) b with
    | false => rfl
    | true =>
      have h1 : (partQ p b.p && lenAll ks.len b.ks.len (fun i => sameQ (kid i) (b.kid i))) = true := hs
      rw [Bool.and_eq_true] at h1
      obtain ⟨hl, ha⟩ := lenAll_iff.1 h1.2
      have h2 := ha 0 (by omega)
      rw [hk] at h2
      rw [ih 0 (.mk p ks kid) (by show ks.len = 1; omega) rfl] at h2
      cases h2
theorem lenAll_self {n : Nat} {p : Nat → Bool} (h : ∀ i, i < n → p i = true) : lenAll n n p = true := lenAll_iff.2 ⟨rfl, h⟩
theorem sameQ_self {w : World} : ∀ (a : Qy), QAt w a → sameQ a a = true := by
  intro a h
  refine QAt.ind (M := fun q => sameQ q q = true) (fun q hq ih => ?_) h
  cases hq with
  | mk p ks kid hp hk h =>
    show (partQ p p && lenAll ks.len ks.len (fun i => sameQ (kid i) (kid i))) = true
    rw [Bool.and_eq_true]
    refine ⟨?_, lenAll_self ih⟩
    have e1 : condB p p = true := sameE_self _
    have e2 : exprB p p = true := sameL_self _ fun k _ => sameE_self k
    have e3 : aggB p p = true := lenAll_self fun i _ => by simp [sameG, sameE_self]
    have e4 : typB p p = true := lenAll_self fun i _ => by simp
    have e5 : rowsB p p = true := lenAll_self fun i _ => lenAll_self fun k _ => by simp [sameV]
    simp [partQ, e1, e2, e3, e4, e5]
/-- An operator without fields. -/
def zeroR (op : Int) : Qr := ⟨op, ⟨#[]⟩, 0, false, Ex.z, Sl.z, Sl.z, [], Sl.z, fun _ => default, Sl.z, fun _ => 0, Sl.z, fun _ => Sl.z, fun _ _ => Vl.z⟩
theorem SlAt.no {w : World} {k : Nat} {f : Nat → List Value} : SlAt w k Sl.z f := ⟨Nat.le_refl _, Nat.zero_le _, fun _ => ⟨rfl, rfl⟩, fun i hi => absurd hi (Nat.not_lt_zero _)⟩
theorem wf0 : (Lit.int .i64 0).wf = true := by decide
theorem zeroR_at {w : World} {op : Int} : QrAt w (zeroR op) where
  table := Nat.zero_le _
  condf := ⟨wf0, wf0, wf0, Nat.zero_le _, wf0⟩
  condk := Kids.none
  exprs := Kids.none
  aggs := SlAt.no
  agg := fun i hi => absurd hi (Nat.not_lt_zero _)
  types := SlAt.no
  rows := SlAt.no
  vals := fun i hi => absurd hi (Nat.not_lt_zero _)
/-- A query that stands on another one alone, its Kids a slice at a. -/
def onQ (op : Int) (q : Qy) (b : Nat) : Qy := .mk (zeroR op) ⟨some ⟨b, 0, none⟩, 1, 1⟩ fun _ => q
theorem onQ_at {w : World} {op : Int} {q : Qy} {b : Nat} (h : QAt w q) (hb : b < w.heap.size) (hc : ∀ j, j < 15 → w.cell? ⟨b, j, none⟩ = q.cells[j]?) : QAt w (onQ op q b) := by
  refine .mk (zeroR op) ⟨some ⟨b, 0, none⟩, 1, 1⟩ (fun _ => q) zeroR_at ?_ fun _ _ => h
  refine ⟨Nat.le_refl 1, (show 1 ≤ maxLen by unfold maxLen; omega), (fun h => by cases h), fun i hi => ⟨b, 0, rfl, hb, fun j hj => ?_⟩⟩
  have hi0 : i = 0 := by have : i < 1 := hi; omega
  subst hi0
  rw [show 0 + 0 * 15 + j = j by omega]
  exact hc j hj
theorem sameQ_on (q : Qy) (op : Int) (b : Nat) : sameQ q (onQ op q b) = false := sameQ_more q _ rfl rfl
end Go.Proofs.Ytonnbmiallammaa
