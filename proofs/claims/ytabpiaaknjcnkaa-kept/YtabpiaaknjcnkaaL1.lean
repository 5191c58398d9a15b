/-
  The statement's small functions over lists of ops: sameOps, full.
-/
import Derived.Test.YtabpiaaknjcnkaaWC
import Derived.Deep.QuietTactic
import Derived.BigQuiet
import Derived.LoopTactic
namespace Go.Proofs.Ytabpiaaknjcnkaa
open Go.RowKit
set_option linter.unusedVariables false
set_option linter.unusedSimpArgs false
set_option maxRecDepth 100000

/-- A list of ops, wherever it lies. -/
def View (w : World) (v : Value) (xs : List DOp) : Prop :=
  (xs = [] ∧ ∃ ao cap, v = .slice ao 0 cap) ∨ ∃ b off cap, v = .slice (some ⟨b, off, none⟩) xs.length cap ∧ b < w.heap.size ∧ ReadsAt w b off xs

theorem View.kept {w w' : World} {v : Value} {xs : List DOp} (h : View w v xs) (hb : Below w.heap.size w w') : View w' v xs := by
  rcases h with h | ⟨b, off, cap, rfl, hlt, hr⟩
  · exact .inl h
  · refine .inr ⟨b, off, cap, rfl, by have := hb.size; omega, fun i o ho => ?_⟩
    obtain ⟨r0, r1, r2⟩ := hr i o ho
    exact ⟨(hb.cell (p := ⟨b, _, none⟩) hlt).trans r0, (hb.cell (p := ⟨b, _, none⟩) hlt).trans r1, (hb.cell (p := ⟨b, _, none⟩) hlt).trans r2⟩
theorem View.of_own {w : World} {base : Nat} {v : Value} {xs : List DOp} (h : OwnOps w base v xs) : View w v xs := by
  rcases reads_of_own h with ⟨rfl, rfl⟩ | ⟨g, cap, rfl, hg, _, hr⟩
  · exact .inl ⟨rfl, _, _, rfl⟩
  · exact .inr ⟨g, 0, cap, rfl, hg, hr⟩

/-- A mark of the book's. -/
def mark (m : Int) : DOp := ⟨m, 0, ⟨#[]⟩⟩

end Go.Proofs.Ytabpiaaknjcnkaa
