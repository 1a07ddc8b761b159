/-
  A chain of distincts over a scan: its types, its size, its depth.
-/
import Derived.Test.YtbnhmjecjeifdaaDoorDTypes2
set_option linter.unusedVariables false
namespace Go.Proofs.YtbnhmjecjeifdaaDoor
open Go Go.RowKit Go.Deep
/-- An operator all of whose fields but these are zero. -/
def plainR (op : Int) (table : ByteArray) : Qr := ⟨op, table, 0, false, Ex.z, Sl.z, Sl.z, [], Sl.z, fun _ => default, Sl.z, fun _ => 0, Sl.z, fun _ => Sl.z, fun _ _ => Vl.z⟩
/-- n distincts over a scan of t0; the one at level i has its kid in block bs i. -/
def chainQ (bs : Nat → Nat) : Nat → Qy
  | 0 => .mk (plainR 1 ⟨#[116, 48]⟩) Sl.z fun _ => .nil
  | n + 1 => .mk (plainR 9 ⟨#[]⟩) ⟨some ⟨bs n, 0, none⟩, 1, 1⟩ fun _ => chainQ bs n
theorem typesOf_chain (ta : Option Addr) (tn tc : Nat) (m : Nat) (bs : Nat → Nat) (w : World) (ht : OpT w)
    (hs : ∀ W, Below w.heap.size w W → Calls Tryd.prog 150 #[.agg #[.slice ta tn tc], .string ⟨#[116, 48]⟩] W (TysIs m W)) :
    ∀ n, QAt w (chainQ bs n) → ∀ W, Below w.heap.size w W → Calls Tryd.prog 59 #[.agg #[.slice ta tn tc], .agg #[.int .i64 (chainQ bs n).p.op, .string (chainQ bs n).p.table, .int .i64 (chainQ bs n).p.kind, .bool (chainQ bs n).p.all, .int .i64 (chainQ bs n).p.cond.op, .int .i64 (chainQ bs n).p.cond.ty, .int .i64 (chainQ bs n).p.cond.num, .string (chainQ bs n).p.cond.text, .int .i64 (chainQ bs n).p.cond.col, .slice (chainQ bs n).p.ck.a (chainQ bs n).p.ck.len (chainQ bs n).p.ck.cap, .slice (chainQ bs n).p.es.a (chainQ bs n).p.es.len (chainQ bs n).p.es.cap, .slice (chainQ bs n).p.gs.a (chainQ bs n).p.gs.len (chainQ bs n).p.gs.cap, .slice (chainQ bs n).p.ts.a (chainQ bs n).p.ts.len (chainQ bs n).p.ts.cap, .slice (chainQ bs n).p.rs.a (chainQ bs n).p.rs.len (chainQ bs n).p.rs.cap, .slice (chainQ bs n).ks.a (chainQ bs n).ks.len (chainQ bs n).ks.cap]] W (TysIs m W) := by
  intro n
  induction n with
  | zero =>
    intro _ W hW
    exact typesOf_scan ta tn tc m W (ht.later hW) fun W' hW' => hs W' (hW.trans (hW'.mono hW.size))
  | succ n ih =>
    intro h W hW
    have hsl := h.slice
    have hkid := h.kid 0 (by show 0 < 1; omega)
    obtain ⟨b, off, ha, hb, hc⟩ := hsl.2.2.2 0 (by show 0 < 1; omega)
    have ha2 : (some ⟨bs n, 0, none⟩ : Option Addr) = some ⟨b, off, none⟩ := ha
    simp only [Option.some.injEq, Addr.mk.injEq, and_true] at ha2
    obtain ⟨rfl, rfl⟩ := ha2
    refine typesOf_distinct ta tn tc (chainQ bs n) m (bs n) 0 1 W (fun j hj => ?_) (Nat.lt_of_lt_of_le hb hW.size) (by omega) (by unfold maxLen; omega) (ht.later hW) fun W' hW' => ih hkid W' (hW.trans (hW'.mono hW.size))
    have h2 := hc j hj
    simp only [Nat.zero_mul, Nat.add_zero] at h2
    rw [hW.cell (p := ⟨bs n, 0 + j, none⟩) hb]
    exact h2
theorem chain_size (bs : Nat → Nat) : ∀ n, szQ (chainQ bs n) = n + 1
  | 0 => rfl
  | n + 1 => by
    have h := chain_size bs n
    show 1 + 0 + 0 + 0 + 0 + (0 + szQ (chainQ bs n)) = n + 1 + 1
    omega
theorem chain_count (bs : Nat → Nat) : ∀ n, cntQ (chainQ bs n) = 2 * n + 4
  | 0 => rfl
  | n + 1 => by
    have h := chain_count bs n
    show 1 + 1 + (0 + cntQ (chainQ bs n)) = 2 * (n + 1) + 4
    omega
theorem chain_depth (bs : Nat → Nat) : ∀ n, depQ (chainQ bs n) = n + 1
  | 0 => rfl
  | n + 1 => by
    have h := chain_depth bs n
    show max 0 (depQ (chainQ bs n)) + 1 = n + 1 + 1
    omega
theorem Type_chain (ta : Option Addr) (tn tc : Nat) (m : Nat) (bs : Nat → Nat) (n : Nat) (w : World) (ht : OpT w) (h : QAt w (chainQ bs n)) (hn : n + 1 ≤ 24)
    (hs : ∀ W, Below w.heap.size w W → Calls Tryd.prog 150 #[.agg #[.slice ta tn tc], .string ⟨#[116, 48]⟩] W (TysIs m W)) :
    Calls Tryd.prog 21 #[.agg #[.slice ta tn tc], .agg #[.int .i64 (chainQ bs n).p.op, .string (chainQ bs n).p.table, .int .i64 (chainQ bs n).p.kind, .bool (chainQ bs n).p.all, .int .i64 (chainQ bs n).p.cond.op, .int .i64 (chainQ bs n).p.cond.ty, .int .i64 (chainQ bs n).p.cond.num, .string (chainQ bs n).p.cond.text, .int .i64 (chainQ bs n).p.cond.col, .slice (chainQ bs n).p.ck.a (chainQ bs n).p.ck.len (chainQ bs n).p.ck.cap, .slice (chainQ bs n).p.es.a (chainQ bs n).p.es.len (chainQ bs n).p.es.cap, .slice (chainQ bs n).p.gs.a (chainQ bs n).p.gs.len (chainQ bs n).p.gs.cap, .slice (chainQ bs n).p.ts.a (chainQ bs n).p.ts.len (chainQ bs n).p.ts.cap, .slice (chainQ bs n).p.rs.a (chainQ bs n).p.rs.len (chainQ bs n).p.rs.cap, .slice (chainQ bs n).ks.a (chainQ bs n).ks.len (chainQ bs n).ks.cap]] w (TysIs m w) :=
  Type_small ta tn tc _ m w h ht (by rw [chain_count]; omega) (by rw [chain_size]; omega) (by rw [chain_depth]; omega) (typesOf_chain ta tn tc m bs w ht hs n h)
theorem Type_chain_deep (ta : Option Addr) (tn tc : Nat) (bs : Nat → Nat) (n : Nat) (w : World) (ht : OpT w) (h : QAt w (chainQ bs n)) (hn : 24 < n + 1) (hn2 : n < 30) :
    Calls Tryd.prog 21 #[.agg #[.slice ta tn tc], .agg #[.int .i64 (chainQ bs n).p.op, .string (chainQ bs n).p.table, .int .i64 (chainQ bs n).p.kind, .bool (chainQ bs n).p.all, .int .i64 (chainQ bs n).p.cond.op, .int .i64 (chainQ bs n).p.cond.ty, .int .i64 (chainQ bs n).p.cond.num, .string (chainQ bs n).p.cond.text, .int .i64 (chainQ bs n).p.cond.col, .slice (chainQ bs n).p.ck.a (chainQ bs n).p.ck.len (chainQ bs n).p.ck.cap, .slice (chainQ bs n).p.es.a (chainQ bs n).p.es.len (chainQ bs n).p.es.cap, .slice (chainQ bs n).p.gs.a (chainQ bs n).p.gs.len (chainQ bs n).p.gs.cap, .slice (chainQ bs n).p.ts.a (chainQ bs n).p.ts.len (chainQ bs n).p.ts.cap, .slice (chainQ bs n).p.rs.a (chainQ bs n).p.rs.len (chainQ bs n).p.rs.cap, .slice (chainQ bs n).ks.a (chainQ bs n).ks.len (chainQ bs n).ks.cap]] w fun r w' => r = .returned (.tuple #[.slice none 0 0, .int .i64 13]) ∧ Cls w w' :=
  Type_deep ta tn tc _ w h ht (by rw [chain_count]; omega) (by rw [chain_size]; omega) (by rw [chain_depth]; omega) (by rw [chain_depth]; omega)
end Go.Proofs.YtbnhmjecjeifdaaDoor
