/-
  No cell of these rows narrows 'for every input' (looked for: loops, veiled, ifaces, maps, wideKeys, modest, calm, conditions, laid).
  DERIVED. THE GIVEN ROWS OF THIS SEAT. 3 by the template 'for every input the law returns true; each argument reads behind the call as it read before'; 0 by the template 'total and deterministic' (their statements: YthiiidkkdlmneaaTotals.lean).
  GIVEN WITH THE SEED: the statements are not yours to turn. If you find one false, say at which input.
  Laid BY PROGRAM, IN A SANDBOX (cutbox-rows.mjs): the forced cells as the released guide's own fill.sh prints them over the translation a808316ee43612d7… (all of the seat's roots in one cut). By AI agents, Wed Nov 11 2026. No macro, syntax, notation, axiom, sorry.
-/
import Derived.Test.YthiiidkkdlmneaaChecked
import GoSem.Claim
import GoSem.ClaimJoined
import GoSem.ClaimMapViews
import Derived.JoinedTies
import Derived.KernelRfl
namespace Go.Proofs.Ythiiidkkdlmneaa
/- THE CELL 'sum', in the pinned program and in every row, IS THE sha256 OF THE DUMP (.gsa) THAT YthiiidkkdlmneaaProg.lean LOADS. Nothing in Lean hashes anything: it is a label: what it is worth is what the hold of that sum in a sandbox is worth. -/
noncomputable def Try.pinned : Pinned := { name := "ythiiidkkdlmneaa", sum := "a808316ee43612d71305d3dc24396b5162f4c35e7a8fae6351203ea41479e5fb", checked := Try.checked }
namespace Rows
def none {H : Type} : Left H := { results := [], args := [] }

/-- 'worksteallaw08.MachineEnvs': WHATEVER THE INPUT: true; the input reads as it did. -/
def machineEnvsSpec : ChangeSpec := { name := "machineEnvs", fn := fun _ => fun
  | [d1, d2, d3] => { results := [.lit (.bool true)], args := [d1, d2, d3] }
  | _ => none }
def machineEnvsRow : OpenClaim := { program := "ythiiidkkdlmneaa", sum := "a808316ee43612d71305d3dc24396b5162f4c35e7a8fae6351203ea41479e5fb", func := "worksteal/worksteallaw08.MachineEnvs", spec := "machineEnvs", unfollowed := true, recurses := true, apart := false }
def MachineEnvsSaid : Prop := machineEnvsRow.holds Try.pinned (OpenSpec.ofChange machineEnvsSpec)

/-- ITS FALSE NEIGHBOUR: 'it returns false'. Refute it at one input. -/
def machineEnvsWrong : ChangeSpec := { name := "machineEnvs", fn := fun _ => fun
  | [d1, d2, d3] => { results := [.lit (.bool false)], args := [d1, d2, d3] }
  | _ => none }
def MachineEnvsWrongFalsely : Prop := machineEnvsRow.holds Try.pinned (OpenSpec.ofChange machineEnvsWrong)

/-- 'worksteallaw09.OwnerStack': WHATEVER THE INPUT: true; the input reads as it did. -/
def ownerStackSpec : ChangeSpec := { name := "ownerStack", fn := fun _ => fun
  | [d1, d2, d3] => { results := [.lit (.bool true)], args := [d1, d2, d3] }
  | _ => none }
def ownerStackRow : OpenClaim := { program := "ythiiidkkdlmneaa", sum := "a808316ee43612d71305d3dc24396b5162f4c35e7a8fae6351203ea41479e5fb", func := "worksteal/worksteallaw09.OwnerStack", spec := "ownerStack", unfollowed := true, recurses := true, apart := false }
def OwnerStackSaid : Prop := ownerStackRow.holds Try.pinned (OpenSpec.ofChange ownerStackSpec)

/-- ITS FALSE NEIGHBOUR: 'it returns false'. Refute it at one input. -/
def ownerStackWrong : ChangeSpec := { name := "ownerStack", fn := fun _ => fun
  | [d1, d2, d3] => { results := [.lit (.bool false)], args := [d1, d2, d3] }
  | _ => none }
def OwnerStackWrongFalsely : Prop := ownerStackRow.holds Try.pinned (OpenSpec.ofChange ownerStackWrong)

/-- 'worksteallaw09.OwnerKeeps': WHATEVER THE INPUT: true; the input reads as it did. -/
def ownerKeepsSpec : ChangeSpec := { name := "ownerKeeps", fn := fun _ => fun
  | [d1, d2, d3, d4, d5] => { results := [.lit (.bool true)], args := [d1, d2, d3, d4, d5] }
  | _ => none }
def ownerKeepsRow : OpenClaim := { program := "ythiiidkkdlmneaa", sum := "a808316ee43612d71305d3dc24396b5162f4c35e7a8fae6351203ea41479e5fb", func := "worksteal/worksteallaw09.OwnerKeeps", spec := "ownerKeeps", unfollowed := true, recurses := true, apart := false }
def OwnerKeepsSaid : Prop := ownerKeepsRow.holds Try.pinned (OpenSpec.ofChange ownerKeepsSpec)

/-- ITS FALSE NEIGHBOUR: 'it returns false'. Refute it at one input. -/
def ownerKeepsWrong : ChangeSpec := { name := "ownerKeeps", fn := fun _ => fun
  | [d1, d2, d3, d4, d5] => { results := [.lit (.bool false)], args := [d1, d2, d3, d4, d5] }
  | _ => none }
def OwnerKeepsWrongFalsely : Prop := ownerKeepsRow.holds Try.pinned (OpenSpec.ofChange ownerKeepsWrong)

/- THE SECOND FORM. 'bulk': how many values and letters a reading holds, each counted each time it is reached (what is shared counts as often as it is met; a slice's spare places count too). A statement '..UptoSaid' is the law's where the arguments, and the package variables that the reading takes, are together of bulk at most 1048576: NARROWER than '..Said'. Prove '..Said' where nothing that the law and all that it calls make is longer than what came in: it says more and counts as full. Else prove '..UptoSaid'. A law counts once. -/
mutual
def uptoBulk {H : Type} : DataW H → Nat
  | .lit (.string bytes) => bytes.length + 1
  | .lit _ => 1
  | .nil => 1
  | .ptr d => uptoBulk d + 1
  | .slice elems spare => uptoBulkAll elems + uptoBulkAll spare + 1
  | .agg parts => uptoBulkAll parts + 1
  | .iface _ d => uptoBulk d + 1
  | .map entries => uptoBulkEntries entries + 1
  | .held _ => 1
def uptoBulkAll {H : Type} : List (DataW H) → Nat
  | [] => 0
  | d :: r => uptoBulk d + uptoBulkAll r
def uptoBulkEntries {H : Type} : List (Lit × DataW H) → Nat
  | [] => 0
  | x :: r => uptoBulkEntry x + uptoBulkEntries r
def uptoBulkEntry {H : Type} : Lit × DataW H → Nat
  | (.string bytes, d) => bytes.length + uptoBulk d + 1
  | (_, d) => uptoBulk d + 1
 end
def uptoSmall : (H : Type) → List (DataW H) → Bool := fun _ ds => decide (uptoBulkAll ds ≤ 1048576)
def OpenSpec.upto (s : _root_.Go.ChangeSpec) : _root_.Go.OpenSpec := { _root_.Go.OpenSpec.ofChange s with cond := some uptoSmall }

/-- 'worksteallaw08.MachineEnvs', WHERE WHAT IT READS IS OF BULK AT MOST 1048576: true; the input reads as it did. -/
def machineEnvsUptoRow : OpenClaim := { program := "ythiiidkkdlmneaa", sum := "a808316ee43612d71305d3dc24396b5162f4c35e7a8fae6351203ea41479e5fb", func := "worksteal/worksteallaw08.MachineEnvs", spec := "machineEnvs", unfollowed := true, recurses := true, apart := false, narrowed := true }
def MachineEnvsUptoSaid : Prop := machineEnvsUptoRow.holds Try.pinned (OpenSpec.upto machineEnvsSpec)

/-- 'worksteallaw09.OwnerStack', WHERE WHAT IT READS IS OF BULK AT MOST 1048576: true; the input reads as it did. -/
def ownerStackUptoRow : OpenClaim := { program := "ythiiidkkdlmneaa", sum := "a808316ee43612d71305d3dc24396b5162f4c35e7a8fae6351203ea41479e5fb", func := "worksteal/worksteallaw09.OwnerStack", spec := "ownerStack", unfollowed := true, recurses := true, apart := false, narrowed := true }
def OwnerStackUptoSaid : Prop := ownerStackUptoRow.holds Try.pinned (OpenSpec.upto ownerStackSpec)

/-- 'worksteallaw09.OwnerKeeps', WHERE WHAT IT READS IS OF BULK AT MOST 1048576: true; the input reads as it did. -/
def ownerKeepsUptoRow : OpenClaim := { program := "ythiiidkkdlmneaa", sum := "a808316ee43612d71305d3dc24396b5162f4c35e7a8fae6351203ea41479e5fb", func := "worksteal/worksteallaw09.OwnerKeeps", spec := "ownerKeeps", unfollowed := true, recurses := true, apart := false, narrowed := true }
def OwnerKeepsUptoSaid : Prop := ownerKeepsUptoRow.holds Try.pinned (OpenSpec.upto ownerKeepsSpec)

end Rows
end Go.Proofs.Ythiiidkkdlmneaa
