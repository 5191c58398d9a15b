/- The texts D7, D8, one behind the other. -/
import Derived.Test.YtabpiaaknjcnkabGreatD6
import Derived.Defers
import Derived.Recover
/-
  The walk over decode.
-/
namespace Go.Proofs.YtabpiaaknjcnkabGreat
open Go.RowKit
set_option linter.unusedVariables false
set_option linter.unusedSimpArgs false
set_option maxRecDepth 100000

theorem assert_fault (xT : TypeId) (v : Value) (w : World) : (Instr.typeAssert (.iface 109 v) xT 109 true).run Tryz.prog w = .ok (.tuple #[v, .bool true]) w := by
  simp [Instr.typeAssert, run_underlying Tryz.underlying109, go_sem, Result.andThen]

end Go.Proofs.YtabpiaaknjcnkabGreat

/-
  The walk over decode and Decode.
-/
namespace Go.Proofs.YtabpiaaknjcnkabGreat
open Go.RowKit
set_option linter.unusedVariables false
set_option linter.unusedSimpArgs false
set_option maxRecDepth 100000

set_option maxHeartbeats 1000000 in
theorem newreader_any (s : ByteArray) (w : World) :
    Calls Tryz.prog 83 #[.string s] w fun e w' => e = .returned (.pointer (some ⟨w.heap.size, 0, none⟩)) ∧ w' = w.alloc (.cells #[.string s, .int .i64 0] 144) := by
  go_enter Tryz.func83, Tryz.ntmps83
  go_wp2
  go_ret
  exact ⟨rfl, rfl⟩

def decL (s : ByteArray) : List DOp := match decF s with | .inl _ => [] | .inr out => out
def decE (s : ByteArray) : Int := match decF s with | .inl _ => 3 | .inr _ => 0
def decP (s : ByteArray) : Int := match decF s with | .inl p => p | .inr _ => 0

/-- What decode does. -/
def DecPost (s : ByteArray) (w : World) (e : Ending) (w' : World) : Prop :=
  (∃ v, e = .returned (.tuple #[v, .int .i64 (decE s), .int .i64 (decP s)]) ∧ OwnOps w' w.heap.size v (decL s)) ∧ Below w.heap.size w w'

/-- The named results lie there. -/
structure Named (w : World) (q : Nat) (v : Value) (z1 z2 : Int) : Prop where
  b0 : w.heap[q]? = some (.cells #[v] 42 (0, 0))
  b1 : w.heap[q + 1]? = some (.cells #[.int .i64 z1] 36 (0, 0))
  b2 : w.heap[q + 1 + 1]? = some (.cells #[.int .i64 z2] 3 (0, 0))
theorem Named.clear {w w' : World} {q rb : Nat} {v : Value} {z1 z2 : Int} (h : Named w q v z1 z2) (hc : Clear rb w w') (hq : q + 2 < rb) : Named w' q v z1 z2 :=
  ⟨hc _ _ _ _ h.b0 (by decide) (by omega), hc _ _ _ _ h.b1 (by decide) (by omega), hc _ _ _ _ h.b2 (by decide) (by omega)⟩
theorem Named.cells {w : World} {q : Nat} {v : Value} {z1 z2 : Int} (h : Named w q v z1 z2) : w.cell? ⟨q, 0, none⟩ = some v ∧ w.cell? ⟨q + 1, 0, none⟩ = some (.int .i64 z1) ∧ w.cell? ⟨q + 1 + 1, 0, none⟩ = some (.int .i64 z2) :=
  ⟨by rw [Lib.cell_of_heap h.b0]; rfl, by rw [Lib.cell_of_heap h.b1]; rfl, by rw [Lib.cell_of_heap h.b2]; rfl⟩
theorem Named.frozen {w : World} {q : Nat} {v : Value} {z1 z2 : Int} (h : Named w q v z1 z2) : w.frozen? ⟨q, 0, none⟩ = false ∧ w.frozen? ⟨q + 1, 0, none⟩ = false ∧ w.frozen? ⟨q + 1 + 1, 0, none⟩ = false :=
  ⟨Lib.frozen_of_heap h.b0 0, Lib.frozen_of_heap h.b1 0, Lib.frozen_of_heap h.b2 0⟩
theorem Named.put {w : World} {q : Nat} {v : Value} {z1 z2 : Int} (h : Named w q v z1 z2) (u : Value) : Named (w.setCell ⟨q, 0, none⟩ u) q u z1 z2 :=
  ⟨Lib.heap_setCell_same h.b0 _, (far1 (by omega)).trans h.b1, (far1 (by omega)).trans h.b2⟩

theorem Named.given {w : World} {q : Nat} {v u : Value} {z1 z2 y1 y2 : Int} {o : Obj} (h : Named w q v z1 z2) : Named ((((w.setCell ⟨q, 0, none⟩ u).setCell ⟨q + 1, 0, none⟩ (.int .i64 y1)).setCell ⟨q + 1 + 1, 0, none⟩ (.int .i64 y2)).alloc o).drew q u y1 y2 := by
  have h0 := Lib.heap_setCell_same (i := 0) h.b0 u
  have h1 := (far1 (w := w) (a := 0) (x := u) (show ¬ q + 1 = q by omega)).trans h.b1
  have h2 := (far1 (w := w) (a := 0) (x := u) (show ¬ q + 1 + 1 = q by omega)).trans h.b2
  have g0 := (far1 (a := 0) (x := .int .i64 y1) (show ¬ q = q + 1 by omega)).trans h0
  have g1 := Lib.heap_setCell_same (i := 0) h1 (.int .i64 y1)
  have g2 := (far1 (a := 0) (x := .int .i64 y1) (show ¬ q + 1 + 1 = q + 1 by omega)).trans h2
  have k0 := (far1 (a := 0) (x := .int .i64 y2) (show ¬ q = q + 1 + 1 by omega)).trans g0
  have k1 := (far1 (a := 0) (x := .int .i64 y2) (show ¬ q + 1 = q + 1 + 1 by omega)).trans g1
  have k2 := Lib.heap_setCell_same (i := 0) g2 (.int .i64 y2)
  exact ⟨(heap_alloc_old _ _ (lt_of_block k0)).trans k0, (heap_alloc_old _ _ (lt_of_block k1)).trans k1, (heap_alloc_old _ _ (lt_of_block k2)).trans k2⟩

theorem own_ne_block {w : World} {B k q : Nat} {v : Value} {xs : List DOp} {cs : Array Value} {T : TypeId} {fr : Nat × Nat} (ho : OwnOps w B v xs) (hq : w.heap[q]? = some (.cells cs T fr)) (hT : T ≠ 48) (hk : v.ownBlock = some k) : ¬ k = q := by
  intro e
  subst e
  rcases ho.2 with ⟨h', _⟩ | ⟨g, cap', cur, h', _, hb, _⟩
  · rw [h'] at hk; cases hk
  · rw [h'] at hk; cases hk
    have := hb.symm.trans hq
    simp at this
    exact hT this.2.1.symm
theorem Named.stays {w : World} {q : Nat} {v u : Value} {z1 z2 y1 y2 : Int} (h : Named w q v z1 z2) : Named (((w.setCell ⟨q, 0, none⟩ u).setCell ⟨q + 1, 0, none⟩ (.int .i64 y1)).setCell ⟨q + 1 + 1, 0, none⟩ (.int .i64 y2)) q u y1 y2 := by
  have h0 := Lib.heap_setCell_same (i := 0) h.b0 u
  have h1 := (far1 (w := w) (a := 0) (x := u) (show ¬ q + 1 = q by omega)).trans h.b1
  have h2 := (far1 (w := w) (a := 0) (x := u) (show ¬ q + 1 + 1 = q by omega)).trans h.b2
  have g0 := (far1 (a := 0) (x := .int .i64 y1) (show ¬ q = q + 1 by omega)).trans h0
  have g1 := Lib.heap_setCell_same (i := 0) h1 (.int .i64 y1)
  have g2 := (far1 (a := 0) (x := .int .i64 y1) (show ¬ q + 1 + 1 = q + 1 by omega)).trans h2
  exact ⟨(far1 (show ¬ q = q + 1 + 1 by omega)).trans g0, (far1 (show ¬ q + 1 = q + 1 + 1 by omega)).trans g1, Lib.heap_setCell_same (i := 0) g2 (.int .i64 y2)⟩

end Go.Proofs.YtabpiaaknjcnkabGreat
