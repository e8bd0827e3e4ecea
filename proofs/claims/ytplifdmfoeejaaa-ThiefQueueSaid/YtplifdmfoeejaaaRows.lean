/-
  No cell of these rows narrows 'for every input' (looked for: loops, veiled, ifaces, maps, wideKeys, modest, calm, conditions, laid).
  DERIVED. THE GIVEN ROWS OF THIS SEAT. 5 by the template 'for every input the law returns true; each argument reads behind the call as it read before'; 0 by the template 'total and deterministic' (their statements: YtplifdmfoeejaaaTotals.lean).
  GIVEN WITH THE SEED: the statements are not yours to turn. If you find one false, say at which input.
  Laid BY PROGRAM, IN A SANDBOX (cutbox-rows.mjs): the forced cells as the released guide's own fill.sh prints them over the translation c45b98c9b66b108c… (all of the seat's roots in one cut). By AI agents, Wed Nov 11 2026. No macro, syntax, notation, axiom, sorry.
-/
import Derived.Test.YtplifdmfoeejaaaChecked
import GoSem.Claim
import GoSem.ClaimJoined
import GoSem.ClaimMapViews
import Derived.JoinedTies
import Derived.KernelRfl
namespace Go.Proofs.Ytplifdmfoeejaaa
/- THE CELL 'sum', in the pinned program and in every row, IS THE sha256 OF THE DUMP (.gsa) THAT YtplifdmfoeejaaaProg.lean LOADS. Nothing in Lean hashes anything: it is a label: what it is worth is what the hold of that sum in a sandbox is worth. -/
noncomputable def Try.pinned : Pinned := { name := "ytplifdmfoeejaaa", sum := "c45b98c9b66b108cfe9ad54cf0c4ad4aa4e744feade072252d4d32d2ae305451", checked := Try.checked }
namespace Rows
def none {H : Type} : Left H := { results := [], args := [] }

/-- 'worksteallaw09.OwnerStack': WHATEVER THE INPUT: true; the input reads as it did. -/
def ownerStackSpec : ChangeSpec := { name := "ownerStack", fn := fun _ => fun
  | [d1, d2, d3] => { results := [.lit (.bool true)], args := [d1, d2, d3] }
  | _ => none }
def ownerStackRow : OpenClaim := { program := "ytplifdmfoeejaaa", sum := "c45b98c9b66b108cfe9ad54cf0c4ad4aa4e744feade072252d4d32d2ae305451", func := "worksteal/worksteallaw09.OwnerStack", spec := "ownerStack", unfollowed := true, recurses := true, apart := false }
def OwnerStackSaid : Prop := ownerStackRow.holds Try.pinned (OpenSpec.ofChange ownerStackSpec)

/-- ITS FALSE NEIGHBOUR: 'it returns false'. Refute it at one input. -/
def ownerStackWrong : ChangeSpec := { name := "ownerStack", fn := fun _ => fun
  | [d1, d2, d3] => { results := [.lit (.bool false)], args := [d1, d2, d3] }
  | _ => none }
def OwnerStackWrongFalsely : Prop := ownerStackRow.holds Try.pinned (OpenSpec.ofChange ownerStackWrong)

/-- 'worksteallaw09.OwnerKeeps': WHATEVER THE INPUT: true; the input reads as it did. -/
def ownerKeepsSpec : ChangeSpec := { name := "ownerKeeps", fn := fun _ => fun
  | [d1, d2, d3, d4, d5] => { results := [.lit (.bool true)], args := [d1, d2, d3, d4, d5] }
  | _ => none }
def ownerKeepsRow : OpenClaim := { program := "ytplifdmfoeejaaa", sum := "c45b98c9b66b108cfe9ad54cf0c4ad4aa4e744feade072252d4d32d2ae305451", func := "worksteal/worksteallaw09.OwnerKeeps", spec := "ownerKeeps", unfollowed := true, recurses := true, apart := false }
def OwnerKeepsSaid : Prop := ownerKeepsRow.holds Try.pinned (OpenSpec.ofChange ownerKeepsSpec)

/-- ITS FALSE NEIGHBOUR: 'it returns false'. Refute it at one input. -/
def ownerKeepsWrong : ChangeSpec := { name := "ownerKeeps", fn := fun _ => fun
  | [d1, d2, d3, d4, d5] => { results := [.lit (.bool false)], args := [d1, d2, d3, d4, d5] }
  | _ => none }
def OwnerKeepsWrongFalsely : Prop := ownerKeepsRow.holds Try.pinned (OpenSpec.ofChange ownerKeepsWrong)

/-- 'worksteallaw10.ThiefQueue': WHATEVER THE INPUT: true; the input reads as it did. -/
def thiefQueueSpec : ChangeSpec := { name := "thiefQueue", fn := fun _ => fun
  | [d1, d2, d3] => { results := [.lit (.bool true)], args := [d1, d2, d3] }
  | _ => none }
def thiefQueueRow : OpenClaim := { program := "ytplifdmfoeejaaa", sum := "c45b98c9b66b108cfe9ad54cf0c4ad4aa4e744feade072252d4d32d2ae305451", func := "worksteal/worksteallaw10.ThiefQueue", spec := "thiefQueue", unfollowed := true, recurses := true, apart := false }
def ThiefQueueSaid : Prop := thiefQueueRow.holds Try.pinned (OpenSpec.ofChange thiefQueueSpec)

/-- ITS FALSE NEIGHBOUR: 'it returns false'. Refute it at one input. -/
def thiefQueueWrong : ChangeSpec := { name := "thiefQueue", fn := fun _ => fun
  | [d1, d2, d3] => { results := [.lit (.bool false)], args := [d1, d2, d3] }
  | _ => none }
def ThiefQueueWrongFalsely : Prop := thiefQueueRow.holds Try.pinned (OpenSpec.ofChange thiefQueueWrong)

/-- 'worksteallaw10.ThiefOnce': WHATEVER THE INPUT: true; the input reads as it did. -/
def thiefOnceSpec : ChangeSpec := { name := "thiefOnce", fn := fun _ => fun
  | [d1, d2, d3, d4] => { results := [.lit (.bool true)], args := [d1, d2, d3, d4] }
  | _ => none }
def thiefOnceRow : OpenClaim := { program := "ytplifdmfoeejaaa", sum := "c45b98c9b66b108cfe9ad54cf0c4ad4aa4e744feade072252d4d32d2ae305451", func := "worksteal/worksteallaw10.ThiefOnce", spec := "thiefOnce", unfollowed := true, recurses := true, apart := false }
def ThiefOnceSaid : Prop := thiefOnceRow.holds Try.pinned (OpenSpec.ofChange thiefOnceSpec)

/-- ITS FALSE NEIGHBOUR: 'it returns false'. Refute it at one input. -/
def thiefOnceWrong : ChangeSpec := { name := "thiefOnce", fn := fun _ => fun
  | [d1, d2, d3, d4] => { results := [.lit (.bool false)], args := [d1, d2, d3, d4] }
  | _ => none }
def ThiefOnceWrongFalsely : Prop := thiefOnceRow.holds Try.pinned (OpenSpec.ofChange thiefOnceWrong)

/-- 'worksteallaw10.ThiefLast': WHATEVER THE INPUT: true; the input reads as it did. -/
def thiefLastSpec : ChangeSpec := { name := "thiefLast", fn := fun _ => fun
  | [d1, d2, d3] => { results := [.lit (.bool true)], args := [d1, d2, d3] }
  | _ => none }
def thiefLastRow : OpenClaim := { program := "ytplifdmfoeejaaa", sum := "c45b98c9b66b108cfe9ad54cf0c4ad4aa4e744feade072252d4d32d2ae305451", func := "worksteal/worksteallaw10.ThiefLast", spec := "thiefLast", unfollowed := true, recurses := true, apart := false }
def ThiefLastSaid : Prop := thiefLastRow.holds Try.pinned (OpenSpec.ofChange thiefLastSpec)

/-- ITS FALSE NEIGHBOUR: 'it returns false'. Refute it at one input. -/
def thiefLastWrong : ChangeSpec := { name := "thiefLast", fn := fun _ => fun
  | [d1, d2, d3] => { results := [.lit (.bool false)], args := [d1, d2, d3] }
  | _ => none }
def ThiefLastWrongFalsely : Prop := thiefLastRow.holds Try.pinned (OpenSpec.ofChange thiefLastWrong)

/- THE SECOND FORM. 'bulk': how many values and letters a reading holds, each counted each time it is reached (what is shared counts as often as it is met; a slice's spare places count too). A statement '..UptoSaid' is the law's where the arguments, and the package variables that the reading takes, are together of bulk at most 1048576: NARROWER than '..Said'. Prove '..Said' where nothing that the law and all that it calls make is longer than what came in: it says more and counts as full. Else prove '..UptoSaid'. A law counts once. -/
mutual
def uptoBulk {H : Type} : DataW H → Nat
  | .lit (.string bytes) => bytes.length + 1
  | .lit _ => 1
  | .nil => 1
  | .ptr d => uptoBulk d + 1
  | .slice elems spare => uptoBulkAll elems + uptoBulkAll spare + 1
  | .agg parts => uptoBulkAll parts + 1
  | .iface _ d => uptoBulk d + 1
  | .map entries => uptoBulkEntries entries + 1
  | .held _ => 1
def uptoBulkAll {H : Type} : List (DataW H) → Nat
  | [] => 0
  | d :: r => uptoBulk d + uptoBulkAll r
def uptoBulkEntries {H : Type} : List (Lit × DataW H) → Nat
  | [] => 0
  | x :: r => uptoBulkEntry x + uptoBulkEntries r
def uptoBulkEntry {H : Type} : Lit × DataW H → Nat
  | (.string bytes, d) => bytes.length + uptoBulk d + 1
  | (_, d) => uptoBulk d + 1
 end
def uptoSmall : (H : Type) → List (DataW H) → Bool := fun _ ds => decide (uptoBulkAll ds ≤ 1048576)
def OpenSpec.upto (s : _root_.Go.ChangeSpec) : _root_.Go.OpenSpec := { _root_.Go.OpenSpec.ofChange s with cond := some uptoSmall }

/-- 'worksteallaw09.OwnerStack', WHERE WHAT IT READS IS OF BULK AT MOST 1048576: true; the input reads as it did. -/
def ownerStackUptoRow : OpenClaim := { program := "ytplifdmfoeejaaa", sum := "c45b98c9b66b108cfe9ad54cf0c4ad4aa4e744feade072252d4d32d2ae305451", func := "worksteal/worksteallaw09.OwnerStack", spec := "ownerStack", unfollowed := true, recurses := true, apart := false, narrowed := true }
def OwnerStackUptoSaid : Prop := ownerStackUptoRow.holds Try.pinned (OpenSpec.upto ownerStackSpec)

/-- 'worksteallaw09.OwnerKeeps', WHERE WHAT IT READS IS OF BULK AT MOST 1048576: true; the input reads as it did. -/
def ownerKeepsUptoRow : OpenClaim := { program := "ytplifdmfoeejaaa", sum := "c45b98c9b66b108cfe9ad54cf0c4ad4aa4e744feade072252d4d32d2ae305451", func := "worksteal/worksteallaw09.OwnerKeeps", spec := "ownerKeeps", unfollowed := true, recurses := true, apart := false, narrowed := true }
def OwnerKeepsUptoSaid : Prop := ownerKeepsUptoRow.holds Try.pinned (OpenSpec.upto ownerKeepsSpec)

/-- 'worksteallaw10.ThiefQueue', WHERE WHAT IT READS IS OF BULK AT MOST 1048576: true; the input reads as it did. -/
def thiefQueueUptoRow : OpenClaim := { program := "ytplifdmfoeejaaa", sum := "c45b98c9b66b108cfe9ad54cf0c4ad4aa4e744feade072252d4d32d2ae305451", func := "worksteal/worksteallaw10.ThiefQueue", spec := "thiefQueue", unfollowed := true, recurses := true, apart := false, narrowed := true }
def ThiefQueueUptoSaid : Prop := thiefQueueUptoRow.holds Try.pinned (OpenSpec.upto thiefQueueSpec)

/-- 'worksteallaw10.ThiefOnce', WHERE WHAT IT READS IS OF BULK AT MOST 1048576: true; the input reads as it did. -/
def thiefOnceUptoRow : OpenClaim := { program := "ytplifdmfoeejaaa", sum := "c45b98c9b66b108cfe9ad54cf0c4ad4aa4e744feade072252d4d32d2ae305451", func := "worksteal/worksteallaw10.ThiefOnce", spec := "thiefOnce", unfollowed := true, recurses := true, apart := false, narrowed := true }
def ThiefOnceUptoSaid : Prop := thiefOnceUptoRow.holds Try.pinned (OpenSpec.upto thiefOnceSpec)

/-- 'worksteallaw10.ThiefLast', WHERE WHAT IT READS IS OF BULK AT MOST 1048576: true; the input reads as it did. -/
def thiefLastUptoRow : OpenClaim := { program := "ytplifdmfoeejaaa", sum := "c45b98c9b66b108cfe9ad54cf0c4ad4aa4e744feade072252d4d32d2ae305451", func := "worksteal/worksteallaw10.ThiefLast", spec := "thiefLast", unfollowed := true, recurses := true, apart := false, narrowed := true }
def ThiefLastUptoSaid : Prop := thiefLastUptoRow.holds Try.pinned (OpenSpec.upto thiefLastSpec)

end Rows
end Go.Proofs.Ytplifdmfoeejaaa
