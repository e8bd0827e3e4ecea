/-
  No cell of these rows narrows 'for every input' (looked for: loops, veiled, ifaces, maps, wideKeys, modest, calm, conditions, laid).
  DERIVED. THE GIVEN ROWS OF THIS SEAT. 4 by the template 'for every input the law returns true; each argument reads behind the call as it read before'; 0 by the template 'total and deterministic' (their statements: YtllkehdokgfafaaTotals.lean).
  GIVEN WITH THE SEED: the statements are not yours to turn. If you find one false, say at which input.
  Laid BY PROGRAM, IN A SANDBOX (cutbox-rows.mjs): the forced cells as the released guide's own fill.sh prints them over the translation f46f55077ad14545… (all of the seat's roots in one cut). By AI agents, Wed Nov 11 2026. No macro, syntax, notation, axiom, sorry.
-/
import Derived.Test.YtllkehdokgfafaaChecked
import GoSem.Claim
import GoSem.ClaimJoined
import GoSem.ClaimMapViews
import Derived.JoinedTies
import Derived.KernelRfl
namespace Go.Proofs.Ytllkehdokgfafaa
/- THE CELL 'sum', in the pinned program and in every row, IS THE sha256 OF THE DUMP (.gsa) THAT YtllkehdokgfafaaProg.lean LOADS. Nothing in Lean hashes anything: it is a label: what it is worth is what the hold of that sum in a sandbox is worth. -/
noncomputable def Try.pinned : Pinned := { name := "ytllkehdokgfafaa", sum := "f46f55077ad1454576a252826198606045c9afe45f0923554d02cd762993223e", checked := Try.checked }
namespace Rows
def none {H : Type} : Left H := { results := [], args := [] }

/-- 'worksteallaw08.MachineEnvs': WHATEVER THE INPUT: true; the input reads as it did. -/
def machineEnvsSpec : ChangeSpec := { name := "machineEnvs", fn := fun _ => fun
  | [d1, d2, d3] => { results := [.lit (.bool true)], args := [d1, d2, d3] }
  | _ => none }
def machineEnvsRow : OpenClaim := { program := "ytllkehdokgfafaa", sum := "f46f55077ad1454576a252826198606045c9afe45f0923554d02cd762993223e", func := "worksteal/worksteallaw08.MachineEnvs", spec := "machineEnvs", unfollowed := true, recurses := true, apart := false }
def MachineEnvsSaid : Prop := machineEnvsRow.holds Try.pinned (OpenSpec.ofChange machineEnvsSpec)

/-- ITS FALSE NEIGHBOUR: 'it returns false'. Refute it at one input. -/
def machineEnvsWrong : ChangeSpec := { name := "machineEnvs", fn := fun _ => fun
  | [d1, d2, d3] => { results := [.lit (.bool false)], args := [d1, d2, d3] }
  | _ => none }
def MachineEnvsWrongFalsely : Prop := machineEnvsRow.holds Try.pinned (OpenSpec.ofChange machineEnvsWrong)

/-- 'worksteallaw08.MachineRuns': WHATEVER THE INPUT: true; the input reads as it did. -/
def machineRunsSpec : ChangeSpec := { name := "machineRuns", fn := fun _ => fun
  | [d1, d2, d3] => { results := [.lit (.bool true)], args := [d1, d2, d3] }
  | _ => none }
def machineRunsRow : OpenClaim := { program := "ytllkehdokgfafaa", sum := "f46f55077ad1454576a252826198606045c9afe45f0923554d02cd762993223e", func := "worksteal/worksteallaw08.MachineRuns", spec := "machineRuns", unfollowed := true, recurses := true, apart := false }
def MachineRunsSaid : Prop := machineRunsRow.holds Try.pinned (OpenSpec.ofChange machineRunsSpec)

/-- ITS FALSE NEIGHBOUR: 'it returns false'. Refute it at one input. -/
def machineRunsWrong : ChangeSpec := { name := "machineRuns", fn := fun _ => fun
  | [d1, d2, d3] => { results := [.lit (.bool false)], args := [d1, d2, d3] }
  | _ => none }
def MachineRunsWrongFalsely : Prop := machineRunsRow.holds Try.pinned (OpenSpec.ofChange machineRunsWrong)

/-- 'worksteallaw08.MachineInterleaves': WHATEVER THE INPUT: true; the input reads as it did. -/
def machineInterleavesSpec : ChangeSpec := { name := "machineInterleaves", fn := fun _ => fun
  | [d1, d2] => { results := [.lit (.bool true)], args := [d1, d2] }
  | _ => none }
def machineInterleavesRow : OpenClaim := { program := "ytllkehdokgfafaa", sum := "f46f55077ad1454576a252826198606045c9afe45f0923554d02cd762993223e", func := "worksteal/worksteallaw08.MachineInterleaves", spec := "machineInterleaves", unfollowed := true, recurses := true, apart := false }
def MachineInterleavesSaid : Prop := machineInterleavesRow.holds Try.pinned (OpenSpec.ofChange machineInterleavesSpec)

/-- ITS FALSE NEIGHBOUR: 'it returns false'. Refute it at one input. -/
def machineInterleavesWrong : ChangeSpec := { name := "machineInterleaves", fn := fun _ => fun
  | [d1, d2] => { results := [.lit (.bool false)], args := [d1, d2] }
  | _ => none }
def MachineInterleavesWrongFalsely : Prop := machineInterleavesRow.holds Try.pinned (OpenSpec.ofChange machineInterleavesWrong)

/-- 'worksteallaw08.MachineEmits': WHATEVER THE INPUT: true; the input reads as it did. -/
def machineEmitsSpec : ChangeSpec := { name := "machineEmits", fn := fun _ => fun
  | [d] => { results := [.lit (.bool true)], args := [d] }
  | _ => none }
def machineEmitsRow : OpenClaim := { program := "ytllkehdokgfafaa", sum := "f46f55077ad1454576a252826198606045c9afe45f0923554d02cd762993223e", func := "worksteal/worksteallaw08.MachineEmits", spec := "machineEmits", unfollowed := true, recurses := true, apart := false }
def MachineEmitsSaid : Prop := machineEmitsRow.holds Try.pinned (OpenSpec.ofChange machineEmitsSpec)

/-- ITS FALSE NEIGHBOUR: 'it returns false'. Refute it at one input. -/
def machineEmitsWrong : ChangeSpec := { name := "machineEmits", fn := fun _ => fun
  | [d] => { results := [.lit (.bool false)], args := [d] }
  | _ => none }
def MachineEmitsWrongFalsely : Prop := machineEmitsRow.holds Try.pinned (OpenSpec.ofChange machineEmitsWrong)

/- THE SECOND FORM. 'bulk': how many values and letters a reading holds, each counted each time it is reached (what is shared counts as often as it is met; a slice's spare places count too). A statement '..UptoSaid' is the law's where the arguments, and the package variables that the reading takes, are together of bulk at most 1048576: NARROWER than '..Said'. Prove '..Said' where nothing that the law and all that it calls make is longer than what came in: it says more and counts as full. Else prove '..UptoSaid'. A law counts once. -/
mutual
def uptoBulk {H : Type} : DataW H → Nat
  | .lit (.string bytes) => bytes.length + 1
  | .lit _ => 1
  | .nil => 1
  | .ptr d => uptoBulk d + 1
  | .slice elems spare => uptoBulkAll elems + uptoBulkAll spare + 1
  | .agg parts => uptoBulkAll parts + 1
  | .iface _ d => uptoBulk d + 1
  | .map entries => uptoBulkEntries entries + 1
  | .held _ => 1
def uptoBulkAll {H : Type} : List (DataW H) → Nat
  | [] => 0
  | d :: r => uptoBulk d + uptoBulkAll r
def uptoBulkEntries {H : Type} : List (Lit × DataW H) → Nat
  | [] => 0
  | x :: r => uptoBulkEntry x + uptoBulkEntries r
def uptoBulkEntry {H : Type} : Lit × DataW H → Nat
  | (.string bytes, d) => bytes.length + uptoBulk d + 1
  | (_, d) => uptoBulk d + 1
 end
def uptoSmall : (H : Type) → List (DataW H) → Bool := fun _ ds => decide (uptoBulkAll ds ≤ 1048576)
def OpenSpec.upto (s : _root_.Go.ChangeSpec) : _root_.Go.OpenSpec := { _root_.Go.OpenSpec.ofChange s with cond := some uptoSmall }

/-- 'worksteallaw08.MachineEnvs', WHERE WHAT IT READS IS OF BULK AT MOST 1048576: true; the input reads as it did. -/
def machineEnvsUptoRow : OpenClaim := { program := "ytllkehdokgfafaa", sum := "f46f55077ad1454576a252826198606045c9afe45f0923554d02cd762993223e", func := "worksteal/worksteallaw08.MachineEnvs", spec := "machineEnvs", unfollowed := true, recurses := true, apart := false, narrowed := true }
def MachineEnvsUptoSaid : Prop := machineEnvsUptoRow.holds Try.pinned (OpenSpec.upto machineEnvsSpec)

/-- 'worksteallaw08.MachineRuns', WHERE WHAT IT READS IS OF BULK AT MOST 1048576: true; the input reads as it did. -/
def machineRunsUptoRow : OpenClaim := { program := "ytllkehdokgfafaa", sum := "f46f55077ad1454576a252826198606045c9afe45f0923554d02cd762993223e", func := "worksteal/worksteallaw08.MachineRuns", spec := "machineRuns", unfollowed := true, recurses := true, apart := false, narrowed := true }
def MachineRunsUptoSaid : Prop := machineRunsUptoRow.holds Try.pinned (OpenSpec.upto machineRunsSpec)

/-- 'worksteallaw08.MachineInterleaves', WHERE WHAT IT READS IS OF BULK AT MOST 1048576: true; the input reads as it did. -/
def machineInterleavesUptoRow : OpenClaim := { program := "ytllkehdokgfafaa", sum := "f46f55077ad1454576a252826198606045c9afe45f0923554d02cd762993223e", func := "worksteal/worksteallaw08.MachineInterleaves", spec := "machineInterleaves", unfollowed := true, recurses := true, apart := false, narrowed := true }
def MachineInterleavesUptoSaid : Prop := machineInterleavesUptoRow.holds Try.pinned (OpenSpec.upto machineInterleavesSpec)

/-- 'worksteallaw08.MachineEmits', WHERE WHAT IT READS IS OF BULK AT MOST 1048576: true; the input reads as it did. -/
def machineEmitsUptoRow : OpenClaim := { program := "ytllkehdokgfafaa", sum := "f46f55077ad1454576a252826198606045c9afe45f0923554d02cd762993223e", func := "worksteal/worksteallaw08.MachineEmits", spec := "machineEmits", unfollowed := true, recurses := true, apart := false, narrowed := true }
def MachineEmitsUptoSaid : Prop := machineEmitsUptoRow.holds Try.pinned (OpenSpec.upto machineEmitsSpec)

end Rows
end Go.Proofs.Ytllkehdokgfafaa
