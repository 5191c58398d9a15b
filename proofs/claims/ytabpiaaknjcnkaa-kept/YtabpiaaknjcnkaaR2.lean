/-
  The document's answer: Wrong, Apply.
-/
import Derived.Test.YtabpiaaknjcnkaaR1
import Derived.LoopTactic
namespace Go.Proofs.Ytabpiaaknjcnkaa
open Go.RowKit
set_option linter.unusedVariables false
set_option linter.unusedSimpArgs false
set_option maxRecDepth 100000

/-- What the document's answer says of a row of ops. -/
def wrongI (xs : List DOp) (b : Int) : Int := if faultF xs b < xs.length then (faultF xs b : Int) else -1

end Go.Proofs.Ytabpiaaknjcnkaa
