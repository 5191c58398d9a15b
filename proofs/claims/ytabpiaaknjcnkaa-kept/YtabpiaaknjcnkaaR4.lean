/-
  The document's answer: Apply; the program's Apply in the same words.
-/
import Derived.Test.YtabpiaaknjcnkaaR2
import Derived.Test.YtabpiaaknjcnkaaL1
import Derived.LoopTactic
namespace Go.Proofs.Ytabpiaaknjcnkaa
open Go.RowKit
set_option linter.unusedVariables false
set_option linter.unusedSimpArgs false
set_option maxRecDepth 100000

def appS (base : ByteArray) (xs : List DOp) : ByteArray := if 2000 < base.size then ⟨#[]⟩ else if faultF xs base.size < xs.length then ⟨#[]⟩ else ⟨(madeL base.data.toList xs).toArray⟩
def appE (base : ByteArray) (xs : List DOp) : Int := if 2000 < base.size then 1 else if faultF xs base.size < xs.length then 2 else 0
def appP (base : ByteArray) (xs : List DOp) : Int := if 2000 < base.size then 0 else if faultF xs base.size < xs.length then faultF xs base.size else 0

/-- What Apply of the program says, in one. -/
theorem capply_any {base : ByteArray} {v : Value} {xs : List DOp} {w : World} (hs : base.size ≤ 9223372036854775807) (hx : xs.length ≤ 5000000000000) (hv : View w v xs) (hl : ∀ o ∈ xs, o.len ≤ 9223372036854775807) :
    Calls Try.prog 12 #[.string base, v] w fun e w' => e = .returned (.tuple #[.string (appS base xs), .int .i64 (appE base xs), .int .i64 (appP base xs)]) ∧ Below w.heap.size w w' := by
  refine capply_of ?_
  unfold appS appE appP
  by_cases h : 2000 < base.size
  · simp only [if_pos h]
    exact (apply_long base v w h hs).mono (fun e w' ⟨a, b⟩ => ⟨a, by rw [b]; exact Below.refl _ _⟩)
  · simp only [if_neg h]
    rcases hv with ⟨rfl, ao, cap, rfl⟩ | ⟨b, off, cap, rfl, hbw, hr⟩
    · exact apply_nil base ao cap w (by omega)
    · by_cases hf : faultF xs base.size < xs.length
      · simp only [if_pos hf]
        exact apply_fault base b off cap xs w (by omega) hx hr hl hbw hf
      · simp only [if_neg hf]
        exact apply_ok base b off cap xs w (by omega) hx hr hl hbw (by have := faultF_le xs base.size; omega)
end Go.Proofs.Ytabpiaaknjcnkaa
