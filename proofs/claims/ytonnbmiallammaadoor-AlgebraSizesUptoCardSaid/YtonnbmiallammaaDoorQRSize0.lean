/-
  The reference's size of a query: what it is to be.
-/
import Derived.Test.YtonnbmiallammaaDoorQNum
import Derived.Test.YtonnbmiallammaaDoorQFew
set_option linter.unusedVariables false
namespace Go.Proofs.YtonnbmiallammaaDoor
open Go Go.RowKit Go.Deep
def RSizeQ (q : Qy) : Prop := ∀ (w : World), QAt w q → cntQ q ≤ 2 ^ 21 → Calls Tryd.prog 26 #[.agg #[.int .i64 q.p.op, .string q.p.table, .int .i64 q.p.kind, .bool q.p.all, .int .i64 q.p.cond.op, .int .i64 q.p.cond.ty, .int .i64 q.p.cond.num, .string q.p.cond.text, .int .i64 q.p.cond.col, .slice q.p.ck.a q.p.ck.len q.p.ck.cap, .slice q.p.es.a q.p.es.len q.p.es.cap, .slice q.p.gs.a q.p.gs.len q.p.gs.cap, .slice q.p.ts.a q.p.ts.len q.p.ts.cap, .slice q.p.rs.a q.p.rs.len q.p.rs.cap, .slice q.ks.a q.ks.len q.ks.cap]] w fun r w' => r = .returned (.int .i64 (szQ q : Nat)) ∧ Cls w w'
end Go.Proofs.YtonnbmiallammaaDoor
