/-
  The document's answer: find, made.
-/
import Derived.Test.YtabpiaaknjcnkaaL1
import Derived.Test.YtabpiaaknjcnkaaW3
import Derived.Deep.QuietTactic
import Derived.BigQuiet
import Derived.LoopTactic
namespace Go.Proofs.Ytabpiaaknjcnkaa
open Go.RowKit
set_option linter.unusedVariables false
set_option linter.unusedSimpArgs false
set_option maxRecDepth 100000

theorem bytes_app (a b : ByteArray) : (a ++ b).data.toList = a.data.toList ++ b.data.toList := by
  rw [ByteArray.data_append, Array.toList_append]

def foundI (base key : List UInt8) : Int := match findFirst base key with | some j => (j : Int) | none => -1

end Go.Proofs.Ytabpiaaknjcnkaa
