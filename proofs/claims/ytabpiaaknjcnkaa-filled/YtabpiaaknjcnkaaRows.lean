/-
  No cell of these rows narrows 'for every input' (looked for: loops, veiled, ifaces, maps, wideKeys, modest, calm, conditions, laid).
  DERIVED. THE GIVEN ROWS OF THIS SEAT. 6 by the template 'for every input the law returns true; each argument reads behind the call as it read before'; 0 by the template 'total and deterministic' (their statements: YtabpiaaknjcnkaaTotals.lean).
  GIVEN WITH THE SEED: the statements are not yours to turn. If you find one false, say at which input.
  Laid BY PROGRAM, IN A SANDBOX (cutbox-rows.mjs): the forced cells as the released guide's own fill.sh prints them over the translation 019e667ca6b3eaaf… (all of the seat's roots in one cut). By AI agents, Wed Nov 11 2026. No macro, syntax, notation, axiom, sorry.
-/
import Derived.Test.YtabpiaaknjcnkaaChecked
import GoSem.Claim
import GoSem.ClaimJoined
import GoSem.ClaimMapViews
import Derived.JoinedTies
import Derived.KernelRfl
namespace Go.Proofs.Ytabpiaaknjcnkaa
/- THE CELL 'sum', in the pinned program and in every row, IS THE sha256 OF THE DUMP (.gsa) THAT YtabpiaaknjcnkaaProg.lean LOADS. Nothing in Lean hashes anything: it is a label: what it is worth is what the hold of that sum in a sandbox is worth. -/
noncomputable def Try.pinned : Pinned := { name := "ytabpiaaknjcnkaa", sum := "019e667ca6b3eaaf0b9e4e84e605e0d12d41f64fbdd041f2f909fd722346254d", checked := Try.checked }
namespace Rows
def none {H : Type} : Left H := { results := [], args := [] }

/-- 'cofferkeep.Back': WHATEVER THE INPUT: true; the input reads as it did. -/
def backSpec : ChangeSpec := { name := "back", fn := fun _ => fun
  | [d1, d2, d3] => { results := [.lit (.bool true)], args := [d1, d2, d3] }
  | _ => none }
def backRow : OpenClaim := { program := "ytabpiaaknjcnkaa", sum := "019e667ca6b3eaaf0b9e4e84e605e0d12d41f64fbdd041f2f909fd722346254d", func := "coffer/cofferkeep.Back", spec := "back", inPlace := ["internal/abi.NoEscape"], apart := false }
def BackSaid : Prop := backRow.holds Try.pinned (OpenSpec.ofChange backSpec)

/-- ITS FALSE NEIGHBOUR: 'it returns false'. Refute it at one input. -/
def backWrong : ChangeSpec := { name := "back", fn := fun _ => fun
  | [d1, d2, d3] => { results := [.lit (.bool false)], args := [d1, d2, d3] }
  | _ => none }
def BackWrongFalsely : Prop := backRow.holds Try.pinned (OpenSpec.ofChange backWrong)

/-- 'cofferkeep.Sums': WHATEVER THE INPUT: true; the input reads as it did. -/
def sumsSpec : ChangeSpec := { name := "sums", fn := fun _ => fun
  | [d1, d2, d3] => { results := [.lit (.bool true)], args := [d1, d2, d3] }
  | _ => none }
def sumsRow : OpenClaim := { program := "ytabpiaaknjcnkaa", sum := "019e667ca6b3eaaf0b9e4e84e605e0d12d41f64fbdd041f2f909fd722346254d", func := "coffer/cofferkeep.Sums", spec := "sums", apart := false }
def SumsSaid : Prop := sumsRow.holds Try.pinned (OpenSpec.ofChange sumsSpec)

/-- ITS FALSE NEIGHBOUR: 'it returns false'. Refute it at one input. -/
def sumsWrong : ChangeSpec := { name := "sums", fn := fun _ => fun
  | [d1, d2, d3] => { results := [.lit (.bool false)], args := [d1, d2, d3] }
  | _ => none }
def SumsWrongFalsely : Prop := sumsRow.holds Try.pinned (OpenSpec.ofChange sumsWrong)

/-- 'cofferkeep.Twice': WHATEVER THE INPUT: true; the input reads as it did. -/
def twiceSpec : ChangeSpec := { name := "twice", fn := fun _ => fun
  | [d1, d2, d3, d4] => { results := [.lit (.bool true)], args := [d1, d2, d3, d4] }
  | _ => none }
def twiceRow : OpenClaim := { program := "ytabpiaaknjcnkaa", sum := "019e667ca6b3eaaf0b9e4e84e605e0d12d41f64fbdd041f2f909fd722346254d", func := "coffer/cofferkeep.Twice", spec := "twice", inPlace := ["internal/abi.NoEscape"], apart := false }
def TwiceSaid : Prop := twiceRow.holds Try.pinned (OpenSpec.ofChange twiceSpec)

/-- ITS FALSE NEIGHBOUR: 'it returns false'. Refute it at one input. -/
def twiceWrong : ChangeSpec := { name := "twice", fn := fun _ => fun
  | [d1, d2, d3, d4] => { results := [.lit (.bool false)], args := [d1, d2, d3, d4] }
  | _ => none }
def TwiceWrongFalsely : Prop := twiceRow.holds Try.pinned (OpenSpec.ofChange twiceWrong)

/-- 'cofferkeep.Coded': WHATEVER THE INPUT: true; the input reads as it did. -/
def codedSpec : ChangeSpec := { name := "coded", fn := fun _ => fun
  | [d1, d2, d3, d4] => { results := [.lit (.bool true)], args := [d1, d2, d3, d4] }
  | _ => none }
def codedRow : OpenClaim := { program := "ytabpiaaknjcnkaa", sum := "019e667ca6b3eaaf0b9e4e84e605e0d12d41f64fbdd041f2f909fd722346254d", func := "coffer/cofferkeep.Coded", spec := "coded", unfollowed := true, recurses := true, apart := false }
def CodedSaid : Prop := codedRow.holds Try.pinned (OpenSpec.ofChange codedSpec)

/-- ITS FALSE NEIGHBOUR: 'it returns false'. Refute it at one input. -/
def codedWrong : ChangeSpec := { name := "coded", fn := fun _ => fun
  | [d1, d2, d3, d4] => { results := [.lit (.bool false)], args := [d1, d2, d3, d4] }
  | _ => none }
def CodedWrongFalsely : Prop := codedRow.holds Try.pinned (OpenSpec.ofChange codedWrong)

/-- 'cofferkeep.Kept': WHATEVER THE INPUT: true; the input reads as it did. -/
def keptSpec : ChangeSpec := { name := "kept", fn := fun _ => fun
  | [d1, d2] => { results := [.lit (.bool true)], args := [d1, d2] }
  | _ => none }
def keptRow : OpenClaim := { program := "ytabpiaaknjcnkaa", sum := "019e667ca6b3eaaf0b9e4e84e605e0d12d41f64fbdd041f2f909fd722346254d", func := "coffer/cofferkeep.Kept", spec := "kept", unfollowed := true, recurses := true, apart := false }
def KeptSaid : Prop := keptRow.holds Try.pinned (OpenSpec.ofChange keptSpec)

/-- ITS FALSE NEIGHBOUR: 'it returns false'. Refute it at one input. -/
def keptWrong : ChangeSpec := { name := "kept", fn := fun _ => fun
  | [d1, d2] => { results := [.lit (.bool false)], args := [d1, d2] }
  | _ => none }
def KeptWrongFalsely : Prop := keptRow.holds Try.pinned (OpenSpec.ofChange keptWrong)

/-- 'cofferkeep.Filled': WHATEVER THE INPUT: true; the input reads as it did. -/
def filledSpec : ChangeSpec := { name := "filled", fn := fun _ => fun
  | [d] => { results := [.lit (.bool true)], args := [d] }
  | _ => none }
def filledRow : OpenClaim := { program := "ytabpiaaknjcnkaa", sum := "019e667ca6b3eaaf0b9e4e84e605e0d12d41f64fbdd041f2f909fd722346254d", func := "coffer/cofferkeep.Filled", spec := "filled", unfollowed := true, recurses := true, apart := false }
def FilledSaid : Prop := filledRow.holds Try.pinned (OpenSpec.ofChange filledSpec)

/-- ITS FALSE NEIGHBOUR: 'it returns false'. Refute it at one input. -/
def filledWrong : ChangeSpec := { name := "filled", fn := fun _ => fun
  | [d] => { results := [.lit (.bool false)], args := [d] }
  | _ => none }
def FilledWrongFalsely : Prop := filledRow.holds Try.pinned (OpenSpec.ofChange filledWrong)

/- THE SECOND FORM. 'bulk': how many values and letters a reading holds, each counted each time it is reached (what is shared counts as often as it is met; a slice's spare places count too). A statement '..UptoSaid' is the law's where the arguments, and the package variables that the reading takes, are together of bulk at most 1048576: NARROWER than '..Said'. Prove '..Said' where nothing that the law and all that it calls make is longer than what came in: it says more and counts as full. Else prove '..UptoSaid'. A law counts once. -/
mutual
def uptoBulk {H : Type} : DataW H → Nat
  | .lit (.string bytes) => bytes.length + 1
  | .lit _ => 1
  | .nil => 1
  | .ptr d => uptoBulk d + 1
  | .slice elems spare => uptoBulkAll elems + uptoBulkAll spare + 1
  | .agg parts => uptoBulkAll parts + 1
  | .iface _ d => uptoBulk d + 1
  | .map entries => uptoBulkEntries entries + 1
  | .held _ => 1
def uptoBulkAll {H : Type} : List (DataW H) → Nat
  | [] => 0
  | d :: r => uptoBulk d + uptoBulkAll r
def uptoBulkEntries {H : Type} : List (Lit × DataW H) → Nat
  | [] => 0
  | x :: r => uptoBulkEntry x + uptoBulkEntries r
def uptoBulkEntry {H : Type} : Lit × DataW H → Nat
  | (.string bytes, d) => bytes.length + uptoBulk d + 1
  | (_, d) => uptoBulk d + 1
 end
def uptoSmall : (H : Type) → List (DataW H) → Bool := fun _ ds => decide (uptoBulkAll ds ≤ 1048576)
def OpenSpec.upto (s : _root_.Go.ChangeSpec) : _root_.Go.OpenSpec := { _root_.Go.OpenSpec.ofChange s with cond := some uptoSmall }

/-- 'cofferkeep.Back', WHERE WHAT IT READS IS OF BULK AT MOST 1048576: true; the input reads as it did. -/
def backUptoRow : OpenClaim := { program := "ytabpiaaknjcnkaa", sum := "019e667ca6b3eaaf0b9e4e84e605e0d12d41f64fbdd041f2f909fd722346254d", func := "coffer/cofferkeep.Back", spec := "back", inPlace := ["internal/abi.NoEscape"], apart := false, narrowed := true }
def BackUptoSaid : Prop := backUptoRow.holds Try.pinned (OpenSpec.upto backSpec)

/-- 'cofferkeep.Sums', WHERE WHAT IT READS IS OF BULK AT MOST 1048576: true; the input reads as it did. -/
def sumsUptoRow : OpenClaim := { program := "ytabpiaaknjcnkaa", sum := "019e667ca6b3eaaf0b9e4e84e605e0d12d41f64fbdd041f2f909fd722346254d", func := "coffer/cofferkeep.Sums", spec := "sums", apart := false, narrowed := true }
def SumsUptoSaid : Prop := sumsUptoRow.holds Try.pinned (OpenSpec.upto sumsSpec)

/-- 'cofferkeep.Twice', WHERE WHAT IT READS IS OF BULK AT MOST 1048576: true; the input reads as it did. -/
def twiceUptoRow : OpenClaim := { program := "ytabpiaaknjcnkaa", sum := "019e667ca6b3eaaf0b9e4e84e605e0d12d41f64fbdd041f2f909fd722346254d", func := "coffer/cofferkeep.Twice", spec := "twice", inPlace := ["internal/abi.NoEscape"], apart := false, narrowed := true }
def TwiceUptoSaid : Prop := twiceUptoRow.holds Try.pinned (OpenSpec.upto twiceSpec)

/-- 'cofferkeep.Coded', WHERE WHAT IT READS IS OF BULK AT MOST 1048576: true; the input reads as it did. -/
def codedUptoRow : OpenClaim := { program := "ytabpiaaknjcnkaa", sum := "019e667ca6b3eaaf0b9e4e84e605e0d12d41f64fbdd041f2f909fd722346254d", func := "coffer/cofferkeep.Coded", spec := "coded", unfollowed := true, recurses := true, apart := false, narrowed := true }
def CodedUptoSaid : Prop := codedUptoRow.holds Try.pinned (OpenSpec.upto codedSpec)

/-- 'cofferkeep.Kept', WHERE WHAT IT READS IS OF BULK AT MOST 1048576: true; the input reads as it did. -/
def keptUptoRow : OpenClaim := { program := "ytabpiaaknjcnkaa", sum := "019e667ca6b3eaaf0b9e4e84e605e0d12d41f64fbdd041f2f909fd722346254d", func := "coffer/cofferkeep.Kept", spec := "kept", unfollowed := true, recurses := true, apart := false, narrowed := true }
def KeptUptoSaid : Prop := keptUptoRow.holds Try.pinned (OpenSpec.upto keptSpec)

/-- 'cofferkeep.Filled', WHERE WHAT IT READS IS OF BULK AT MOST 1048576: true; the input reads as it did. -/
def filledUptoRow : OpenClaim := { program := "ytabpiaaknjcnkaa", sum := "019e667ca6b3eaaf0b9e4e84e605e0d12d41f64fbdd041f2f909fd722346254d", func := "coffer/cofferkeep.Filled", spec := "filled", unfollowed := true, recurses := true, apart := false, narrowed := true }
def FilledUptoSaid : Prop := filledUptoRow.holds Try.pinned (OpenSpec.upto filledSpec)

end Rows
end Go.Proofs.Ytabpiaaknjcnkaa
