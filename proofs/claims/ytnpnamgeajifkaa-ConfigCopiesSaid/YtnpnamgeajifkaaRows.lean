/-
  No cell of these rows narrows 'for every input' (looked for: loops, veiled, ifaces, maps, wideKeys, modest, calm, conditions, laid).
  DERIVED. THE GIVEN ROWS OF THIS SEAT. 5 by the template 'for every input the law returns true; each argument reads behind the call as it read before'; 0 by the template 'total and deterministic' (their statements: YtnpnamgeajifkaaTotals.lean).
  GIVEN WITH THE SEED: the statements are not yours to turn. If you find one false, say at which input.
  Laid BY PROGRAM, IN A SANDBOX (cutbox-rows.mjs): the forced cells as the released guide's own fill.sh prints them over the translation 21edb56be4f06f5b… (all of the seat's roots in one cut). By AI agents, Wed Nov 11 2026. No macro, syntax, notation, axiom, sorry.
-/
import Derived.Test.YtnpnamgeajifkaaChecked
import GoSem.Claim
import GoSem.ClaimJoined
import GoSem.ClaimMapViews
import Derived.JoinedTies
import Derived.KernelRfl
namespace Go.Proofs.Ytnpnamgeajifkaa
/- THE CELL 'sum', in the pinned program and in every row, IS THE sha256 OF THE DUMP (.gsa) THAT YtnpnamgeajifkaaProg.lean LOADS. Nothing in Lean hashes anything: it is a label: what it is worth is what the hold of that sum in a sandbox is worth. -/
noncomputable def Try.pinned : Pinned := { name := "ytnpnamgeajifkaa", sum := "21edb56be4f06f5bc5ad6c3a487502f4e0d4e5a91c496e37617d1b165134b070", checked := Try.checked }
namespace Rows
def none {H : Type} : Left H := { results := [], args := [] }

/-- 'worksteallaw05.ConfigChecks': WHATEVER THE INPUT: true; the input reads as it did. -/
def configChecksSpec : ChangeSpec := { name := "configChecks", fn := fun _ => fun
  | [d1, d2, d3, d4, d5] => { results := [.lit (.bool true)], args := [d1, d2, d3, d4, d5] }
  | _ => none }
def configChecksRow : OpenClaim := { program := "ytnpnamgeajifkaa", sum := "21edb56be4f06f5bc5ad6c3a487502f4e0d4e5a91c496e37617d1b165134b070", func := "worksteal/worksteallaw05.ConfigChecks", spec := "configChecks", unfollowed := true, recurses := true, apart := false }
def ConfigChecksSaid : Prop := configChecksRow.holds Try.pinned (OpenSpec.ofChange configChecksSpec)

/-- ITS FALSE NEIGHBOUR: 'it returns false'. Refute it at one input. -/
def configChecksWrong : ChangeSpec := { name := "configChecks", fn := fun _ => fun
  | [d1, d2, d3, d4, d5] => { results := [.lit (.bool false)], args := [d1, d2, d3, d4, d5] }
  | _ => none }
def ConfigChecksWrongFalsely : Prop := configChecksRow.holds Try.pinned (OpenSpec.ofChange configChecksWrong)

/-- 'worksteallaw05.ConfigDecodes': WHATEVER THE INPUT: true; the input reads as it did. -/
def configDecodesSpec : ChangeSpec := { name := "configDecodes", fn := fun _ => fun
  | [d] => { results := [.lit (.bool true)], args := [d] }
  | _ => none }
def configDecodesRow : OpenClaim := { program := "ytnpnamgeajifkaa", sum := "21edb56be4f06f5bc5ad6c3a487502f4e0d4e5a91c496e37617d1b165134b070", func := "worksteal/worksteallaw05.ConfigDecodes", spec := "configDecodes", unfollowed := true, recurses := true, apart := false }
def ConfigDecodesSaid : Prop := configDecodesRow.holds Try.pinned (OpenSpec.ofChange configDecodesSpec)

/-- ITS FALSE NEIGHBOUR: 'it returns false'. Refute it at one input. -/
def configDecodesWrong : ChangeSpec := { name := "configDecodes", fn := fun _ => fun
  | [d] => { results := [.lit (.bool false)], args := [d] }
  | _ => none }
def ConfigDecodesWrongFalsely : Prop := configDecodesRow.holds Try.pinned (OpenSpec.ofChange configDecodesWrong)

/-- 'worksteallaw05.ConfigEncodes': WHATEVER THE INPUT: true; the input reads as it did. -/
def configEncodesSpec : ChangeSpec := { name := "configEncodes", fn := fun _ => fun
  | [d1, d2, d3, d4] => { results := [.lit (.bool true)], args := [d1, d2, d3, d4] }
  | _ => none }
def configEncodesRow : OpenClaim := { program := "ytnpnamgeajifkaa", sum := "21edb56be4f06f5bc5ad6c3a487502f4e0d4e5a91c496e37617d1b165134b070", func := "worksteal/worksteallaw05.ConfigEncodes", spec := "configEncodes", unfollowed := true, recurses := true, apart := false }
def ConfigEncodesSaid : Prop := configEncodesRow.holds Try.pinned (OpenSpec.ofChange configEncodesSpec)

/-- ITS FALSE NEIGHBOUR: 'it returns false'. Refute it at one input. -/
def configEncodesWrong : ChangeSpec := { name := "configEncodes", fn := fun _ => fun
  | [d1, d2, d3, d4] => { results := [.lit (.bool false)], args := [d1, d2, d3, d4] }
  | _ => none }
def ConfigEncodesWrongFalsely : Prop := configEncodesRow.holds Try.pinned (OpenSpec.ofChange configEncodesWrong)

/-- 'worksteallaw05.ConfigRound': WHATEVER THE INPUT: true; the input reads as it did. -/
def configRoundSpec : ChangeSpec := { name := "configRound", fn := fun _ => fun
  | [d1, d2] => { results := [.lit (.bool true)], args := [d1, d2] }
  | _ => none }
def configRoundRow : OpenClaim := { program := "ytnpnamgeajifkaa", sum := "21edb56be4f06f5bc5ad6c3a487502f4e0d4e5a91c496e37617d1b165134b070", func := "worksteal/worksteallaw05.ConfigRound", spec := "configRound", unfollowed := true, recurses := true, apart := false }
def ConfigRoundSaid : Prop := configRoundRow.holds Try.pinned (OpenSpec.ofChange configRoundSpec)

/-- ITS FALSE NEIGHBOUR: 'it returns false'. Refute it at one input. -/
def configRoundWrong : ChangeSpec := { name := "configRound", fn := fun _ => fun
  | [d1, d2] => { results := [.lit (.bool false)], args := [d1, d2] }
  | _ => none }
def ConfigRoundWrongFalsely : Prop := configRoundRow.holds Try.pinned (OpenSpec.ofChange configRoundWrong)

/-- 'worksteallaw05.ConfigCopies': WHATEVER THE INPUT: true; the input reads as it did. -/
def configCopiesSpec : ChangeSpec := { name := "configCopies", fn := fun _ => fun
  | [d1, d2, d3, d4, d5] => { results := [.lit (.bool true)], args := [d1, d2, d3, d4, d5] }
  | _ => none }
def configCopiesRow : OpenClaim := { program := "ytnpnamgeajifkaa", sum := "21edb56be4f06f5bc5ad6c3a487502f4e0d4e5a91c496e37617d1b165134b070", func := "worksteal/worksteallaw05.ConfigCopies", spec := "configCopies", unfollowed := true, recurses := true, apart := false }
def ConfigCopiesSaid : Prop := configCopiesRow.holds Try.pinned (OpenSpec.ofChange configCopiesSpec)

/-- ITS FALSE NEIGHBOUR: 'it returns false'. Refute it at one input. -/
def configCopiesWrong : ChangeSpec := { name := "configCopies", fn := fun _ => fun
  | [d1, d2, d3, d4, d5] => { results := [.lit (.bool false)], args := [d1, d2, d3, d4, d5] }
  | _ => none }
def ConfigCopiesWrongFalsely : Prop := configCopiesRow.holds Try.pinned (OpenSpec.ofChange configCopiesWrong)

/- THE SECOND FORM. 'bulk': how many values and letters a reading holds, each counted each time it is reached (what is shared counts as often as it is met; a slice's spare places count too). A statement '..UptoSaid' is the law's where the arguments, and the package variables that the reading takes, are together of bulk at most 1048576: NARROWER than '..Said'. Prove '..Said' where nothing that the law and all that it calls make is longer than what came in: it says more and counts as full. Else prove '..UptoSaid'. A law counts once. -/
mutual
def uptoBulk {H : Type} : DataW H → Nat
  | .lit (.string bytes) => bytes.length + 1
  | .lit _ => 1
  | .nil => 1
  | .ptr d => uptoBulk d + 1
  | .slice elems spare => uptoBulkAll elems + uptoBulkAll spare + 1
  | .agg parts => uptoBulkAll parts + 1
  | .iface _ d => uptoBulk d + 1
  | .map entries => uptoBulkEntries entries + 1
  | .held _ => 1
def uptoBulkAll {H : Type} : List (DataW H) → Nat
  | [] => 0
  | d :: r => uptoBulk d + uptoBulkAll r
def uptoBulkEntries {H : Type} : List (Lit × DataW H) → Nat
  | [] => 0
  | x :: r => uptoBulkEntry x + uptoBulkEntries r
def uptoBulkEntry {H : Type} : Lit × DataW H → Nat
  | (.string bytes, d) => bytes.length + uptoBulk d + 1
  | (_, d) => uptoBulk d + 1
 end
def uptoSmall : (H : Type) → List (DataW H) → Bool := fun _ ds => decide (uptoBulkAll ds ≤ 1048576)
def OpenSpec.upto (s : _root_.Go.ChangeSpec) : _root_.Go.OpenSpec := { _root_.Go.OpenSpec.ofChange s with cond := some uptoSmall }

/-- 'worksteallaw05.ConfigChecks', WHERE WHAT IT READS IS OF BULK AT MOST 1048576: true; the input reads as it did. -/
def configChecksUptoRow : OpenClaim := { program := "ytnpnamgeajifkaa", sum := "21edb56be4f06f5bc5ad6c3a487502f4e0d4e5a91c496e37617d1b165134b070", func := "worksteal/worksteallaw05.ConfigChecks", spec := "configChecks", unfollowed := true, recurses := true, apart := false, narrowed := true }
def ConfigChecksUptoSaid : Prop := configChecksUptoRow.holds Try.pinned (OpenSpec.upto configChecksSpec)

/-- 'worksteallaw05.ConfigDecodes', WHERE WHAT IT READS IS OF BULK AT MOST 1048576: true; the input reads as it did. -/
def configDecodesUptoRow : OpenClaim := { program := "ytnpnamgeajifkaa", sum := "21edb56be4f06f5bc5ad6c3a487502f4e0d4e5a91c496e37617d1b165134b070", func := "worksteal/worksteallaw05.ConfigDecodes", spec := "configDecodes", unfollowed := true, recurses := true, apart := false, narrowed := true }
def ConfigDecodesUptoSaid : Prop := configDecodesUptoRow.holds Try.pinned (OpenSpec.upto configDecodesSpec)

/-- 'worksteallaw05.ConfigEncodes', WHERE WHAT IT READS IS OF BULK AT MOST 1048576: true; the input reads as it did. -/
def configEncodesUptoRow : OpenClaim := { program := "ytnpnamgeajifkaa", sum := "21edb56be4f06f5bc5ad6c3a487502f4e0d4e5a91c496e37617d1b165134b070", func := "worksteal/worksteallaw05.ConfigEncodes", spec := "configEncodes", unfollowed := true, recurses := true, apart := false, narrowed := true }
def ConfigEncodesUptoSaid : Prop := configEncodesUptoRow.holds Try.pinned (OpenSpec.upto configEncodesSpec)

/-- 'worksteallaw05.ConfigRound', WHERE WHAT IT READS IS OF BULK AT MOST 1048576: true; the input reads as it did. -/
def configRoundUptoRow : OpenClaim := { program := "ytnpnamgeajifkaa", sum := "21edb56be4f06f5bc5ad6c3a487502f4e0d4e5a91c496e37617d1b165134b070", func := "worksteal/worksteallaw05.ConfigRound", spec := "configRound", unfollowed := true, recurses := true, apart := false, narrowed := true }
def ConfigRoundUptoSaid : Prop := configRoundUptoRow.holds Try.pinned (OpenSpec.upto configRoundSpec)

/-- 'worksteallaw05.ConfigCopies', WHERE WHAT IT READS IS OF BULK AT MOST 1048576: true; the input reads as it did. -/
def configCopiesUptoRow : OpenClaim := { program := "ytnpnamgeajifkaa", sum := "21edb56be4f06f5bc5ad6c3a487502f4e0d4e5a91c496e37617d1b165134b070", func := "worksteal/worksteallaw05.ConfigCopies", spec := "configCopies", unfollowed := true, recurses := true, apart := false, narrowed := true }
def ConfigCopiesUptoSaid : Prop := configCopiesUptoRow.holds Try.pinned (OpenSpec.upto configCopiesSpec)

end Rows
end Go.Proofs.Ytnpnamgeajifkaa
