/-
  The walk over decode.
-/
import Derived.Test.YtabpiaaknjcnkaaD6
import Derived.Defers
import Derived.Recover
namespace Go.Proofs.Ytabpiaaknjcnkaa
open Go.RowKit
set_option linter.unusedVariables false
set_option linter.unusedSimpArgs false
set_option maxRecDepth 100000

set_option maxHeartbeats 2000000 in
theorem catch_idle (a b c : Addr) (w : World) :
    CallsD Try.prog 53 #[.pointer (some a), .pointer (some b), .pointer (some c)] .returning w fun e u' w' => e = .returned (.tuple #[]) ∧ u' = .returning ∧ w' = w := by
  refine callsD_of_wpS Try.func53 rfl fun c₀ cs hu => ?_
  apply wpS_seq
  apply wpS_region
  simp [wpOpsS, go_sem, recoverD, hu, Try.ntmps53, Exit.thenS]
  refine wpS_of_wp ?_
  go_wp2
  cases c₀
  simp_all [bodyPostS, results, Try.results53]

theorem assert_fault (xT : TypeId) (v : Value) (w : World) : (Instr.typeAssert (.iface 97 v) xT 97 true).run Try.prog w = .ok (.tuple #[v, .bool true]) w := by
  simp [Instr.typeAssert, run_underlying Try.underlying97, go_sem, Result.andThen]

set_option maxHeartbeats 4000000 in
theorem catch_fault (q0 q1 q2 : Nat) (p : Nat) (older : List PanicEntry) (v0 v1 v2 : Value) (w : World) (h0 : w.cell? ⟨q0, 0, none⟩ = some v0) (h1 : w.cell? ⟨q1, 0, none⟩ = some v1) (h2 : w.cell? ⟨q2, 0, none⟩ = some v2)
    (f0 : w.frozen? ⟨q0, 0, none⟩ = false) (f1 : w.frozen? ⟨q1, 0, none⟩ = false) (f2 : w.frozen? ⟨q2, 0, none⟩ = false) (n01 : ¬ q0 = q1) (n02 : ¬ q0 = q2) (n12 : ¬ q1 = q2) (l0 : q0 < w.heap.size) (l1 : q1 < w.heap.size) (l2 : q2 < w.heap.size) :
    CallsD Try.prog 53 #[.pointer (some ⟨q0, 0, none⟩), .pointer (some ⟨q1, 0, none⟩), .pointer (some ⟨q2, 0, none⟩)] (.panicking ({ v := .iface 97 (.agg #[.int .i64 p]), recovered := false } :: older)) w fun e u' w' =>
      e = .returned (.tuple #[]) ∧ u' = .panicking ({ v := .iface 97 (.agg #[.int .i64 p]), recovered := true } :: older) ∧
      w' = ((((w.setCell ⟨q0, 0, none⟩ (.slice none 0 0)).setCell ⟨q1, 0, none⟩ (.int .i64 3)).setCell ⟨q2, 0, none⟩ (.int .i64 p)).alloc (.cells #[.int .i64 p] 97)).drew := by
  refine callsD_of_wpS Try.func53 rfl fun c₀ cs hu => ?_
  apply wpS_seq
  apply wpS_region
  simp [wpOpsS, go_sem, recoverD, hu, Try.ntmps53, Exit.thenS]
  refine wpS_of_wp ?_
  have hta := assert_fault
  go_wp2
  go_region
  all_goals
    go_wp2
    cases c₀
    simp_all [bodyPostS, results, Try.results53]
end Go.Proofs.Ytabpiaaknjcnkaa
