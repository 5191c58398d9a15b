/-
  No cell of these rows narrows 'for every input' (looked for: loops, veiled, ifaces, maps, wideKeys, modest, calm, conditions, laid).
  DERIVED. THE GIVEN ROWS OF THIS SEAT. 6 by the template 'for every input the law returns true; each argument reads behind the call as it read before'; 0 by the template 'total and deterministic' (their statements: YtiecmiagadmjaaaTotals.lean).
  GIVEN WITH THE SEED: the statements are not yours to turn. If you find one false, say at which input.
  Laid BY PROGRAM, IN A SANDBOX (cutbox-rows.mjs): the forced cells as the released guide's own fill.sh prints them over the translation cd7958c67f317aa3… (all of the seat's roots in one cut). By AI agents, Wed Nov 11 2026. No macro, syntax, notation, axiom, sorry.
-/
import Derived.Test.YtiecmiagadmjaaaChecked
import GoSem.Claim
import GoSem.ClaimJoined
import GoSem.ClaimMapViews
import Derived.JoinedTies
import Derived.KernelRfl
namespace Go.Proofs.Ytiecmiagadmjaaa
/- THE CELL 'sum', in the pinned program and in every row, IS THE sha256 OF THE DUMP (.gsa) THAT YtiecmiagadmjaaaProg.lean LOADS. Nothing in Lean hashes anything: it is a label: what it is worth is what the hold of that sum in a sandbox is worth. -/
noncomputable def Try.pinned : Pinned := { name := "ytiecmiagadmjaaa", sum := "cd7958c67f317aa37fa1974a5e4985e4703412127ffb0dad1a7d61041ab438fe", checked := Try.checked }
namespace Rows
def none {H : Type} : Left H := { results := [], args := [] }

/-- 'cofferlaw.Deltas': WHATEVER THE INPUT: true; the input reads as it did. -/
def deltasSpec : ChangeSpec := { name := "deltas", fn := fun _ => fun
  | [d] => { results := [.lit (.bool true)], args := [d] }
  | _ => none }
def deltasRow : OpenClaim := { program := "ytiecmiagadmjaaa", sum := "cd7958c67f317aa37fa1974a5e4985e4703412127ffb0dad1a7d61041ab438fe", func := "coffer/cofferlaw.Deltas", spec := "deltas", inPlace := ["internal/abi.NoEscape"], unfollowed := true, recurses := true, apart := false }
def DeltasSaid : Prop := deltasRow.holds Try.pinned (OpenSpec.ofChange deltasSpec)

/-- ITS FALSE NEIGHBOUR: 'it returns false'. Refute it at one input. -/
def deltasWrong : ChangeSpec := { name := "deltas", fn := fun _ => fun
  | [d] => { results := [.lit (.bool false)], args := [d] }
  | _ => none }
def DeltasWrongFalsely : Prop := deltasRow.holds Try.pinned (OpenSpec.ofChange deltasWrong)

/-- 'cofferkeep.Back': WHATEVER THE INPUT: true; the input reads as it did. -/
def backSpec : ChangeSpec := { name := "back", fn := fun _ => fun
  | [d1, d2, d3] => { results := [.lit (.bool true)], args := [d1, d2, d3] }
  | _ => none }
def backRow : OpenClaim := { program := "ytiecmiagadmjaaa", sum := "cd7958c67f317aa37fa1974a5e4985e4703412127ffb0dad1a7d61041ab438fe", func := "coffer/cofferkeep.Back", spec := "back", inPlace := ["internal/abi.NoEscape"], apart := false }
def BackSaid : Prop := backRow.holds Try.pinned (OpenSpec.ofChange backSpec)

/-- ITS FALSE NEIGHBOUR: 'it returns false'. Refute it at one input. -/
def backWrong : ChangeSpec := { name := "back", fn := fun _ => fun
  | [d1, d2, d3] => { results := [.lit (.bool false)], args := [d1, d2, d3] }
  | _ => none }
def BackWrongFalsely : Prop := backRow.holds Try.pinned (OpenSpec.ofChange backWrong)

/-- 'cofferkeep.Sums': WHATEVER THE INPUT: true; the input reads as it did. -/
def sumsSpec : ChangeSpec := { name := "sums", fn := fun _ => fun
  | [d1, d2, d3] => { results := [.lit (.bool true)], args := [d1, d2, d3] }
  | _ => none }
def sumsRow : OpenClaim := { program := "ytiecmiagadmjaaa", sum := "cd7958c67f317aa37fa1974a5e4985e4703412127ffb0dad1a7d61041ab438fe", func := "coffer/cofferkeep.Sums", spec := "sums", apart := false }
def SumsSaid : Prop := sumsRow.holds Try.pinned (OpenSpec.ofChange sumsSpec)

/-- ITS FALSE NEIGHBOUR: 'it returns false'. Refute it at one input. -/
def sumsWrong : ChangeSpec := { name := "sums", fn := fun _ => fun
  | [d1, d2, d3] => { results := [.lit (.bool false)], args := [d1, d2, d3] }
  | _ => none }
def SumsWrongFalsely : Prop := sumsRow.holds Try.pinned (OpenSpec.ofChange sumsWrong)

/-- 'cofferlaw.Codes': WHATEVER THE INPUT: true; the input reads as it did. -/
def codesSpec : ChangeSpec := { name := "codes", fn := fun _ => fun
  | [d] => { results := [.lit (.bool true)], args := [d] }
  | _ => none }
def codesRow : OpenClaim := { program := "ytiecmiagadmjaaa", sum := "cd7958c67f317aa37fa1974a5e4985e4703412127ffb0dad1a7d61041ab438fe", func := "coffer/cofferlaw.Codes", spec := "codes", inPlace := ["internal/abi.NoEscape"], unfollowed := true, recurses := true, apart := false }
def CodesSaid : Prop := codesRow.holds Try.pinned (OpenSpec.ofChange codesSpec)

/-- ITS FALSE NEIGHBOUR: 'it returns false'. Refute it at one input. -/
def codesWrong : ChangeSpec := { name := "codes", fn := fun _ => fun
  | [d] => { results := [.lit (.bool false)], args := [d] }
  | _ => none }
def CodesWrongFalsely : Prop := codesRow.holds Try.pinned (OpenSpec.ofChange codesWrong)

/-- 'cofferkeep.Twice': WHATEVER THE INPUT: true; the input reads as it did. -/
def twiceSpec : ChangeSpec := { name := "twice", fn := fun _ => fun
  | [d1, d2, d3, d4] => { results := [.lit (.bool true)], args := [d1, d2, d3, d4] }
  | _ => none }
def twiceRow : OpenClaim := { program := "ytiecmiagadmjaaa", sum := "cd7958c67f317aa37fa1974a5e4985e4703412127ffb0dad1a7d61041ab438fe", func := "coffer/cofferkeep.Twice", spec := "twice", inPlace := ["internal/abi.NoEscape"], apart := false }
def TwiceSaid : Prop := twiceRow.holds Try.pinned (OpenSpec.ofChange twiceSpec)

/-- ITS FALSE NEIGHBOUR: 'it returns false'. Refute it at one input. -/
def twiceWrong : ChangeSpec := { name := "twice", fn := fun _ => fun
  | [d1, d2, d3, d4] => { results := [.lit (.bool false)], args := [d1, d2, d3, d4] }
  | _ => none }
def TwiceWrongFalsely : Prop := twiceRow.holds Try.pinned (OpenSpec.ofChange twiceWrong)

/-- 'cofferkeep.Coded': WHATEVER THE INPUT: true; the input reads as it did. -/
def codedSpec : ChangeSpec := { name := "coded", fn := fun _ => fun
  | [d1, d2, d3, d4] => { results := [.lit (.bool true)], args := [d1, d2, d3, d4] }
  | _ => none }
def codedRow : OpenClaim := { program := "ytiecmiagadmjaaa", sum := "cd7958c67f317aa37fa1974a5e4985e4703412127ffb0dad1a7d61041ab438fe", func := "coffer/cofferkeep.Coded", spec := "coded", unfollowed := true, recurses := true, apart := false }
def CodedSaid : Prop := codedRow.holds Try.pinned (OpenSpec.ofChange codedSpec)

/-- ITS FALSE NEIGHBOUR: 'it returns false'. Refute it at one input. -/
def codedWrong : ChangeSpec := { name := "coded", fn := fun _ => fun
  | [d1, d2, d3, d4] => { results := [.lit (.bool false)], args := [d1, d2, d3, d4] }
  | _ => none }
def CodedWrongFalsely : Prop := codedRow.holds Try.pinned (OpenSpec.ofChange codedWrong)

/- THE SECOND FORM. 'bulk': how many values and letters a reading holds, each counted each time it is reached (what is shared counts as often as it is met; a slice's spare places count too). A statement '..UptoSaid' is the law's where the arguments, and the package variables that the reading takes, are together of bulk at most 1048576: NARROWER than '..Said'. Prove '..Said' where nothing that the law and all that it calls make is longer than what came in: it says more and counts as full. Else prove '..UptoSaid'. A law counts once. -/
mutual
def uptoBulk {H : Type} : DataW H → Nat
  | .lit (.string bytes) => bytes.length + 1
  | .lit _ => 1
  | .nil => 1
  | .ptr d => uptoBulk d + 1
  | .slice elems spare => uptoBulkAll elems + uptoBulkAll spare + 1
  | .agg parts => uptoBulkAll parts + 1
  | .iface _ d => uptoBulk d + 1
  | .map entries => uptoBulkEntries entries + 1
  | .held _ => 1
def uptoBulkAll {H : Type} : List (DataW H) → Nat
  | [] => 0
  | d :: r => uptoBulk d + uptoBulkAll r
def uptoBulkEntries {H : Type} : List (Lit × DataW H) → Nat
  | [] => 0
  | x :: r => uptoBulkEntry x + uptoBulkEntries r
def uptoBulkEntry {H : Type} : Lit × DataW H → Nat
  | (.string bytes, d) => bytes.length + uptoBulk d + 1
  | (_, d) => uptoBulk d + 1
 end
def uptoSmall : (H : Type) → List (DataW H) → Bool := fun _ ds => decide (uptoBulkAll ds ≤ 1048576)
def OpenSpec.upto (s : _root_.Go.ChangeSpec) : _root_.Go.OpenSpec := { _root_.Go.OpenSpec.ofChange s with cond := some uptoSmall }

/-- 'cofferlaw.Deltas', WHERE WHAT IT READS IS OF BULK AT MOST 1048576: true; the input reads as it did. -/
def deltasUptoRow : OpenClaim := { program := "ytiecmiagadmjaaa", sum := "cd7958c67f317aa37fa1974a5e4985e4703412127ffb0dad1a7d61041ab438fe", func := "coffer/cofferlaw.Deltas", spec := "deltas", inPlace := ["internal/abi.NoEscape"], unfollowed := true, recurses := true, apart := false, narrowed := true }
def DeltasUptoSaid : Prop := deltasUptoRow.holds Try.pinned (OpenSpec.upto deltasSpec)

/-- 'cofferkeep.Back', WHERE WHAT IT READS IS OF BULK AT MOST 1048576: true; the input reads as it did. -/
def backUptoRow : OpenClaim := { program := "ytiecmiagadmjaaa", sum := "cd7958c67f317aa37fa1974a5e4985e4703412127ffb0dad1a7d61041ab438fe", func := "coffer/cofferkeep.Back", spec := "back", inPlace := ["internal/abi.NoEscape"], apart := false, narrowed := true }
def BackUptoSaid : Prop := backUptoRow.holds Try.pinned (OpenSpec.upto backSpec)

/-- 'cofferkeep.Sums', WHERE WHAT IT READS IS OF BULK AT MOST 1048576: true; the input reads as it did. -/
def sumsUptoRow : OpenClaim := { program := "ytiecmiagadmjaaa", sum := "cd7958c67f317aa37fa1974a5e4985e4703412127ffb0dad1a7d61041ab438fe", func := "coffer/cofferkeep.Sums", spec := "sums", apart := false, narrowed := true }
def SumsUptoSaid : Prop := sumsUptoRow.holds Try.pinned (OpenSpec.upto sumsSpec)

/-- 'cofferlaw.Codes', WHERE WHAT IT READS IS OF BULK AT MOST 1048576: true; the input reads as it did. -/
def codesUptoRow : OpenClaim := { program := "ytiecmiagadmjaaa", sum := "cd7958c67f317aa37fa1974a5e4985e4703412127ffb0dad1a7d61041ab438fe", func := "coffer/cofferlaw.Codes", spec := "codes", inPlace := ["internal/abi.NoEscape"], unfollowed := true, recurses := true, apart := false, narrowed := true }
def CodesUptoSaid : Prop := codesUptoRow.holds Try.pinned (OpenSpec.upto codesSpec)

/-- 'cofferkeep.Twice', WHERE WHAT IT READS IS OF BULK AT MOST 1048576: true; the input reads as it did. -/
def twiceUptoRow : OpenClaim := { program := "ytiecmiagadmjaaa", sum := "cd7958c67f317aa37fa1974a5e4985e4703412127ffb0dad1a7d61041ab438fe", func := "coffer/cofferkeep.Twice", spec := "twice", inPlace := ["internal/abi.NoEscape"], apart := false, narrowed := true }
def TwiceUptoSaid : Prop := twiceUptoRow.holds Try.pinned (OpenSpec.upto twiceSpec)

/-- 'cofferkeep.Coded', WHERE WHAT IT READS IS OF BULK AT MOST 1048576: true; the input reads as it did. -/
def codedUptoRow : OpenClaim := { program := "ytiecmiagadmjaaa", sum := "cd7958c67f317aa37fa1974a5e4985e4703412127ffb0dad1a7d61041ab438fe", func := "coffer/cofferkeep.Coded", spec := "coded", unfollowed := true, recurses := true, apart := false, narrowed := true }
def CodedUptoSaid : Prop := codedUptoRow.holds Try.pinned (OpenSpec.upto codedSpec)

end Rows
end Go.Proofs.Ytiecmiagadmjaaa
