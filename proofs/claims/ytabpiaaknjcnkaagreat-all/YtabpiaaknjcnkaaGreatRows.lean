/-
  No cell of these rows narrows 'for every input' (looked for: loops, veiled, ifaces, maps, wideKeys, modest, calm, conditions, laid).
  DERIVED. THE GIVEN ROWS OF THIS SEAT. 6 by the template 'for every input the law returns true; each argument reads behind the call as it read before'; 0 by the template 'total and deterministic' (their statements: YtabpiaaknjcnkaaGreatTotals.lean).
  GIVEN WITH THE SEED: the statements are not yours to turn. If you find one false, say at which input.
  Laid BY PROGRAM, IN A SANDBOX (cutbox-rows.mjs): the forced cells as the released guide's own fill.sh prints them over the translation ae69ca5fda11ac6b… (all of the seat's roots in one cut). By AI agents, Wed Nov 11 2026. No macro, syntax, notation, axiom, sorry.
-/
import Derived.Test.YtabpiaaknjcnkaaGreatChecked
import GoSem.Claim
import GoSem.ClaimJoined
import GoSem.ClaimMapViews
import Derived.JoinedTies
import Derived.KernelRfl
namespace Go.Proofs.YtabpiaaknjcnkaaGreat
/- THE CELL 'sum', in the pinned program and in every row, IS THE sha256 OF THE DUMP (.gsa) THAT YtabpiaaknjcnkaaGreatProg.lean LOADS. Nothing in Lean hashes anything: it is a label: what it is worth is what the hold of that sum in a sandbox is worth. -/
noncomputable def Tryz.pinned : Pinned := { name := "ytabpiaaknjcnkaagreat", sum := "ae69ca5fda11ac6b9a445b219f0f5dca02558f6eea0c263972f5ede3f4c81991", checked := Tryz.checked }
namespace Rows
def none {H : Type} : Left H := { results := [], args := [] }

/-- 'cofferlaw.Deltas': WHATEVER THE INPUT: true; the input reads as it did. -/
def deltasSpec : ChangeSpec := { name := "deltas", fn := fun _ => fun
  | [d] => { results := [.lit (.bool true)], args := [d] }
  | _ => none }
def deltasRow : OpenClaim := { program := "ytabpiaaknjcnkaagreat", sum := "ae69ca5fda11ac6b9a445b219f0f5dca02558f6eea0c263972f5ede3f4c81991", func := "coffer/cofferlaw.Deltas", spec := "deltas", inPlace := ["internal/abi.NoEscape"], unfollowed := true, recurses := true, apart := false }
def DeltasSaid : Prop := deltasRow.holds Tryz.pinned (OpenSpec.ofChange deltasSpec)

/-- ITS FALSE NEIGHBOUR: 'it returns false'. Refute it at one input. -/
def deltasWrong : ChangeSpec := { name := "deltas", fn := fun _ => fun
  | [d] => { results := [.lit (.bool false)], args := [d] }
  | _ => none }
def DeltasWrongFalsely : Prop := deltasRow.holds Tryz.pinned (OpenSpec.ofChange deltasWrong)

/-- 'cofferlaw.Codes': WHATEVER THE INPUT: true; the input reads as it did. -/
def codesSpec : ChangeSpec := { name := "codes", fn := fun _ => fun
  | [d] => { results := [.lit (.bool true)], args := [d] }
  | _ => none }
def codesRow : OpenClaim := { program := "ytabpiaaknjcnkaagreat", sum := "ae69ca5fda11ac6b9a445b219f0f5dca02558f6eea0c263972f5ede3f4c81991", func := "coffer/cofferlaw.Codes", spec := "codes", inPlace := ["internal/abi.NoEscape"], unfollowed := true, recurses := true, apart := false }
def CodesSaid : Prop := codesRow.holds Tryz.pinned (OpenSpec.ofChange codesSpec)

/-- ITS FALSE NEIGHBOUR: 'it returns false'. Refute it at one input. -/
def codesWrong : ChangeSpec := { name := "codes", fn := fun _ => fun
  | [d] => { results := [.lit (.bool false)], args := [d] }
  | _ => none }
def CodesWrongFalsely : Prop := codesRow.holds Tryz.pinned (OpenSpec.ofChange codesWrong)

/-- 'cofferlaw.Vaults': WHATEVER THE INPUT: true; the input reads as it did. -/
def vaultsSpec : ChangeSpec := { name := "vaults", fn := fun _ => fun
  | [d] => { results := [.lit (.bool true)], args := [d] }
  | _ => none }
def vaultsRow : OpenClaim := { program := "ytabpiaaknjcnkaagreat", sum := "ae69ca5fda11ac6b9a445b219f0f5dca02558f6eea0c263972f5ede3f4c81991", func := "coffer/cofferlaw.Vaults", spec := "vaults", inPlace := ["internal/abi.NoEscape"], unfollowed := true, recurses := true, apart := false }
def VaultsSaid : Prop := vaultsRow.holds Tryz.pinned (OpenSpec.ofChange vaultsSpec)

/-- ITS FALSE NEIGHBOUR: 'it returns false'. Refute it at one input. -/
def vaultsWrong : ChangeSpec := { name := "vaults", fn := fun _ => fun
  | [d] => { results := [.lit (.bool false)], args := [d] }
  | _ => none }
def VaultsWrongFalsely : Prop := vaultsRow.holds Tryz.pinned (OpenSpec.ofChange vaultsWrong)

/-- 'cofferlaw.All': WHATEVER THE INPUT: true; the input reads as it did. -/
def allSpec : ChangeSpec := { name := "all", fn := fun _ => fun
  | [d] => { results := [.lit (.bool true)], args := [d] }
  | _ => none }
def allRow : OpenClaim := { program := "ytabpiaaknjcnkaagreat", sum := "ae69ca5fda11ac6b9a445b219f0f5dca02558f6eea0c263972f5ede3f4c81991", func := "coffer/cofferlaw.All", spec := "all", inPlace := ["internal/abi.NoEscape"], unfollowed := true, recurses := true, apart := false }
def AllSaid : Prop := allRow.holds Tryz.pinned (OpenSpec.ofChange allSpec)

/-- ITS FALSE NEIGHBOUR: 'it returns false'. Refute it at one input. -/
def allWrong : ChangeSpec := { name := "all", fn := fun _ => fun
  | [d] => { results := [.lit (.bool false)], args := [d] }
  | _ => none }
def AllWrongFalsely : Prop := allRow.holds Tryz.pinned (OpenSpec.ofChange allWrong)

/-- 'cofferkeep.Cut': WHATEVER THE INPUT: true; the input reads as it did. -/
def cutSpec : ChangeSpec := { name := "cut", fn := fun _ => fun
  | [d1, d2, d3] => { results := [.lit (.bool true)], args := [d1, d2, d3] }
  | _ => none }
def cutRow : OpenClaim := { program := "ytabpiaaknjcnkaagreat", sum := "ae69ca5fda11ac6b9a445b219f0f5dca02558f6eea0c263972f5ede3f4c81991", func := "coffer/cofferkeep.Cut", spec := "cut", unfollowed := true, recurses := true, apart := false }
def CutSaid : Prop := cutRow.holds Tryz.pinned (OpenSpec.ofChange cutSpec)

/-- ITS FALSE NEIGHBOUR: 'it returns false'. Refute it at one input. -/
def cutWrong : ChangeSpec := { name := "cut", fn := fun _ => fun
  | [d1, d2, d3] => { results := [.lit (.bool false)], args := [d1, d2, d3] }
  | _ => none }
def CutWrongFalsely : Prop := cutRow.holds Tryz.pinned (OpenSpec.ofChange cutWrong)

/-- 'cofferkeep.Flipped': WHATEVER THE INPUT: true; the input reads as it did. -/
def flippedSpec : ChangeSpec := { name := "flipped", fn := fun _ => fun
  | [d1, d2, d3, d4] => { results := [.lit (.bool true)], args := [d1, d2, d3, d4] }
  | _ => none }
def flippedRow : OpenClaim := { program := "ytabpiaaknjcnkaagreat", sum := "ae69ca5fda11ac6b9a445b219f0f5dca02558f6eea0c263972f5ede3f4c81991", func := "coffer/cofferkeep.Flipped", spec := "flipped", unfollowed := true, recurses := true, apart := false }
def FlippedSaid : Prop := flippedRow.holds Tryz.pinned (OpenSpec.ofChange flippedSpec)

/-- ITS FALSE NEIGHBOUR: 'it returns false'. Refute it at one input. -/
def flippedWrong : ChangeSpec := { name := "flipped", fn := fun _ => fun
  | [d1, d2, d3, d4] => { results := [.lit (.bool false)], args := [d1, d2, d3, d4] }
  | _ => none }
def FlippedWrongFalsely : Prop := flippedRow.holds Tryz.pinned (OpenSpec.ofChange flippedWrong)

/- THE SECOND FORM. 'bulk': how many values and letters a reading holds, each counted each time it is reached (what is shared counts as often as it is met; a slice's spare places count too). A statement '..UptoSaid' is the law's where the arguments, and the package variables that the reading takes, are together of bulk at most 1048576: NARROWER than '..Said'. Prove '..Said' where nothing that the law and all that it calls make is longer than what came in: it says more and counts as full. Else prove '..UptoSaid'. A law counts once. -/
mutual
def uptoBulk {H : Type} : DataW H → Nat
  | .lit (.string bytes) => bytes.length + 1
  | .lit _ => 1
  | .nil => 1
  | .ptr d => uptoBulk d + 1
  | .slice elems spare => uptoBulkAll elems + uptoBulkAll spare + 1
  | .agg parts => uptoBulkAll parts + 1
  | .iface _ d => uptoBulk d + 1
  | .map entries => uptoBulkEntries entries + 1
  | .held _ => 1
def uptoBulkAll {H : Type} : List (DataW H) → Nat
  | [] => 0
  | d :: r => uptoBulk d + uptoBulkAll r
def uptoBulkEntries {H : Type} : List (Lit × DataW H) → Nat
  | [] => 0
  | x :: r => uptoBulkEntry x + uptoBulkEntries r
def uptoBulkEntry {H : Type} : Lit × DataW H → Nat
  | (.string bytes, d) => bytes.length + uptoBulk d + 1
  | (_, d) => uptoBulk d + 1
 end
def uptoSmall : (H : Type) → List (DataW H) → Bool := fun _ ds => decide (uptoBulkAll ds ≤ 1048576)
def OpenSpec.upto (s : _root_.Go.ChangeSpec) : _root_.Go.OpenSpec := { _root_.Go.OpenSpec.ofChange s with cond := some uptoSmall }

/-- 'cofferlaw.Deltas', WHERE WHAT IT READS IS OF BULK AT MOST 1048576: true; the input reads as it did. -/
def deltasUptoRow : OpenClaim := { program := "ytabpiaaknjcnkaagreat", sum := "ae69ca5fda11ac6b9a445b219f0f5dca02558f6eea0c263972f5ede3f4c81991", func := "coffer/cofferlaw.Deltas", spec := "deltas", inPlace := ["internal/abi.NoEscape"], unfollowed := true, recurses := true, apart := false, narrowed := true }
def DeltasUptoSaid : Prop := deltasUptoRow.holds Tryz.pinned (OpenSpec.upto deltasSpec)

/-- 'cofferlaw.Codes', WHERE WHAT IT READS IS OF BULK AT MOST 1048576: true; the input reads as it did. -/
def codesUptoRow : OpenClaim := { program := "ytabpiaaknjcnkaagreat", sum := "ae69ca5fda11ac6b9a445b219f0f5dca02558f6eea0c263972f5ede3f4c81991", func := "coffer/cofferlaw.Codes", spec := "codes", inPlace := ["internal/abi.NoEscape"], unfollowed := true, recurses := true, apart := false, narrowed := true }
def CodesUptoSaid : Prop := codesUptoRow.holds Tryz.pinned (OpenSpec.upto codesSpec)

/-- 'cofferlaw.Vaults', WHERE WHAT IT READS IS OF BULK AT MOST 1048576: true; the input reads as it did. -/
def vaultsUptoRow : OpenClaim := { program := "ytabpiaaknjcnkaagreat", sum := "ae69ca5fda11ac6b9a445b219f0f5dca02558f6eea0c263972f5ede3f4c81991", func := "coffer/cofferlaw.Vaults", spec := "vaults", inPlace := ["internal/abi.NoEscape"], unfollowed := true, recurses := true, apart := false, narrowed := true }
def VaultsUptoSaid : Prop := vaultsUptoRow.holds Tryz.pinned (OpenSpec.upto vaultsSpec)

/-- 'cofferlaw.All', WHERE WHAT IT READS IS OF BULK AT MOST 1048576: true; the input reads as it did. -/
def allUptoRow : OpenClaim := { program := "ytabpiaaknjcnkaagreat", sum := "ae69ca5fda11ac6b9a445b219f0f5dca02558f6eea0c263972f5ede3f4c81991", func := "coffer/cofferlaw.All", spec := "all", inPlace := ["internal/abi.NoEscape"], unfollowed := true, recurses := true, apart := false, narrowed := true }
def AllUptoSaid : Prop := allUptoRow.holds Tryz.pinned (OpenSpec.upto allSpec)

/-- 'cofferkeep.Cut', WHERE WHAT IT READS IS OF BULK AT MOST 1048576: true; the input reads as it did. -/
def cutUptoRow : OpenClaim := { program := "ytabpiaaknjcnkaagreat", sum := "ae69ca5fda11ac6b9a445b219f0f5dca02558f6eea0c263972f5ede3f4c81991", func := "coffer/cofferkeep.Cut", spec := "cut", unfollowed := true, recurses := true, apart := false, narrowed := true }
def CutUptoSaid : Prop := cutUptoRow.holds Tryz.pinned (OpenSpec.upto cutSpec)

/-- 'cofferkeep.Flipped', WHERE WHAT IT READS IS OF BULK AT MOST 1048576: true; the input reads as it did. -/
def flippedUptoRow : OpenClaim := { program := "ytabpiaaknjcnkaagreat", sum := "ae69ca5fda11ac6b9a445b219f0f5dca02558f6eea0c263972f5ede3f4c81991", func := "coffer/cofferkeep.Flipped", spec := "flipped", unfollowed := true, recurses := true, apart := false, narrowed := true }
def FlippedUptoSaid : Prop := flippedUptoRow.holds Tryz.pinned (OpenSpec.upto flippedSpec)

end Rows
end Go.Proofs.YtabpiaaknjcnkaaGreat
