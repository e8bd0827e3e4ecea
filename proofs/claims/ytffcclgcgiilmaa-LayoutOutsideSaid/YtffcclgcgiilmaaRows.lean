/-
  No cell of these rows narrows 'for every input' (looked for: loops, veiled, ifaces, maps, wideKeys, modest, calm, conditions, laid).
  DERIVED. THE GIVEN ROWS OF THIS SEAT. 3 by the template 'for every input the law returns true; each argument reads behind the call as it read before'; 0 by the template 'total and deterministic' (their statements: YtffcclgcgiilmaaTotals.lean).
  GIVEN WITH THE SEED: the statements are not yours to turn. If you find one false, say at which input.
  Laid BY PROGRAM, IN A SANDBOX (cutbox-rows.mjs): the forced cells as the released guide's own fill.sh prints them over the translation c38f537a5737db7b… (all of the seat's roots in one cut). By AI agents, Wed Nov 11 2026. No macro, syntax, notation, axiom, sorry.
-/
import Derived.Test.YtffcclgcgiilmaaChecked
import GoSem.Claim
import GoSem.ClaimJoined
import GoSem.ClaimMapViews
import Derived.JoinedTies
import Derived.KernelRfl
namespace Go.Proofs.Ytffcclgcgiilmaa
/- THE CELL 'sum', in the pinned program and in every row, IS THE sha256 OF THE DUMP (.gsa) THAT YtffcclgcgiilmaaProg.lean LOADS. Nothing in Lean hashes anything: it is a label: what it is worth is what the hold of that sum in a sandbox is worth. -/
noncomputable def Try.pinned : Pinned := { name := "ytffcclgcgiilmaa", sum := "c38f537a5737db7b562fb92a31d6b1c7bcc184be6c5d8c88f748bbc6806c4817", checked := Try.checked }
namespace Rows
def none {H : Type} : Left H := { results := [], args := [] }

/-- 'worksteallaw06.LayoutCells': WHATEVER THE INPUT: true; the input reads as it did. -/
def layoutCellsSpec : ChangeSpec := { name := "layoutCells", fn := fun _ => fun
  | [d1, d2, d3, d4] => { results := [.lit (.bool true)], args := [d1, d2, d3, d4] }
  | _ => none }
def layoutCellsRow : OpenClaim := { program := "ytffcclgcgiilmaa", sum := "c38f537a5737db7b562fb92a31d6b1c7bcc184be6c5d8c88f748bbc6806c4817", func := "worksteal/worksteallaw06.LayoutCells", spec := "layoutCells", apart := false }
def LayoutCellsSaid : Prop := layoutCellsRow.holds Try.pinned (OpenSpec.ofChange layoutCellsSpec)

/-- ITS FALSE NEIGHBOUR: 'it returns false'. Refute it at one input. -/
def layoutCellsWrong : ChangeSpec := { name := "layoutCells", fn := fun _ => fun
  | [d1, d2, d3, d4] => { results := [.lit (.bool false)], args := [d1, d2, d3, d4] }
  | _ => none }
def LayoutCellsWrongFalsely : Prop := layoutCellsRow.holds Try.pinned (OpenSpec.ofChange layoutCellsWrong)

/-- 'worksteallaw06.LayoutWhole': WHATEVER THE INPUT: true; the input reads as it did. -/
def layoutWholeSpec : ChangeSpec := { name := "layoutWhole", fn := fun _ => fun
  | [d] => { results := [.lit (.bool true)], args := [d] }
  | _ => none }
def layoutWholeRow : OpenClaim := { program := "ytffcclgcgiilmaa", sum := "c38f537a5737db7b562fb92a31d6b1c7bcc184be6c5d8c88f748bbc6806c4817", func := "worksteal/worksteallaw06.LayoutWhole", spec := "layoutWhole", apart := false }
def LayoutWholeSaid : Prop := layoutWholeRow.holds Try.pinned (OpenSpec.ofChange layoutWholeSpec)

/-- ITS FALSE NEIGHBOUR: 'it returns false'. Refute it at one input. -/
def layoutWholeWrong : ChangeSpec := { name := "layoutWhole", fn := fun _ => fun
  | [d] => { results := [.lit (.bool false)], args := [d] }
  | _ => none }
def LayoutWholeWrongFalsely : Prop := layoutWholeRow.holds Try.pinned (OpenSpec.ofChange layoutWholeWrong)

/-- 'worksteallaw06.LayoutOutside': WHATEVER THE INPUT: true; the input reads as it did. -/
def layoutOutsideSpec : ChangeSpec := { name := "layoutOutside", fn := fun _ => fun
  | [d1, d2] => { results := [.lit (.bool true)], args := [d1, d2] }
  | _ => none }
def layoutOutsideRow : OpenClaim := { program := "ytffcclgcgiilmaa", sum := "c38f537a5737db7b562fb92a31d6b1c7bcc184be6c5d8c88f748bbc6806c4817", func := "worksteal/worksteallaw06.LayoutOutside", spec := "layoutOutside", apart := false }
def LayoutOutsideSaid : Prop := layoutOutsideRow.holds Try.pinned (OpenSpec.ofChange layoutOutsideSpec)

/-- ITS FALSE NEIGHBOUR: 'it returns false'. Refute it at one input. -/
def layoutOutsideWrong : ChangeSpec := { name := "layoutOutside", fn := fun _ => fun
  | [d1, d2] => { results := [.lit (.bool false)], args := [d1, d2] }
  | _ => none }
def LayoutOutsideWrongFalsely : Prop := layoutOutsideRow.holds Try.pinned (OpenSpec.ofChange layoutOutsideWrong)

/- THE SECOND FORM. 'bulk': how many values and letters a reading holds, each counted each time it is reached (what is shared counts as often as it is met; a slice's spare places count too). A statement '..UptoSaid' is the law's where the arguments, and the package variables that the reading takes, are together of bulk at most 1048576: NARROWER than '..Said'. Prove '..Said' where nothing that the law and all that it calls make is longer than what came in: it says more and counts as full. Else prove '..UptoSaid'. A law counts once. -/
mutual
def uptoBulk {H : Type} : DataW H → Nat
  | .lit (.string bytes) => bytes.length + 1
  | .lit _ => 1
  | .nil => 1
  | .ptr d => uptoBulk d + 1
  | .slice elems spare => uptoBulkAll elems + uptoBulkAll spare + 1
  | .agg parts => uptoBulkAll parts + 1
  | .iface _ d => uptoBulk d + 1
  | .map entries => uptoBulkEntries entries + 1
  | .held _ => 1
def uptoBulkAll {H : Type} : List (DataW H) → Nat
  | [] => 0
  | d :: r => uptoBulk d + uptoBulkAll r
def uptoBulkEntries {H : Type} : List (Lit × DataW H) → Nat
  | [] => 0
  | x :: r => uptoBulkEntry x + uptoBulkEntries r
def uptoBulkEntry {H : Type} : Lit × DataW H → Nat
  | (.string bytes, d) => bytes.length + uptoBulk d + 1
  | (_, d) => uptoBulk d + 1
 end
def uptoSmall : (H : Type) → List (DataW H) → Bool := fun _ ds => decide (uptoBulkAll ds ≤ 1048576)
def OpenSpec.upto (s : _root_.Go.ChangeSpec) : _root_.Go.OpenSpec := { _root_.Go.OpenSpec.ofChange s with cond := some uptoSmall }

/-- 'worksteallaw06.LayoutCells', WHERE WHAT IT READS IS OF BULK AT MOST 1048576: true; the input reads as it did. -/
def layoutCellsUptoRow : OpenClaim := { program := "ytffcclgcgiilmaa", sum := "c38f537a5737db7b562fb92a31d6b1c7bcc184be6c5d8c88f748bbc6806c4817", func := "worksteal/worksteallaw06.LayoutCells", spec := "layoutCells", apart := false, narrowed := true }
def LayoutCellsUptoSaid : Prop := layoutCellsUptoRow.holds Try.pinned (OpenSpec.upto layoutCellsSpec)

/-- 'worksteallaw06.LayoutWhole', WHERE WHAT IT READS IS OF BULK AT MOST 1048576: true; the input reads as it did. -/
def layoutWholeUptoRow : OpenClaim := { program := "ytffcclgcgiilmaa", sum := "c38f537a5737db7b562fb92a31d6b1c7bcc184be6c5d8c88f748bbc6806c4817", func := "worksteal/worksteallaw06.LayoutWhole", spec := "layoutWhole", apart := false, narrowed := true }
def LayoutWholeUptoSaid : Prop := layoutWholeUptoRow.holds Try.pinned (OpenSpec.upto layoutWholeSpec)

/-- 'worksteallaw06.LayoutOutside', WHERE WHAT IT READS IS OF BULK AT MOST 1048576: true; the input reads as it did. -/
def layoutOutsideUptoRow : OpenClaim := { program := "ytffcclgcgiilmaa", sum := "c38f537a5737db7b562fb92a31d6b1c7bcc184be6c5d8c88f748bbc6806c4817", func := "worksteal/worksteallaw06.LayoutOutside", spec := "layoutOutside", apart := false, narrowed := true }
def LayoutOutsideUptoSaid : Prop := layoutOutsideUptoRow.holds Try.pinned (OpenSpec.upto layoutOutsideSpec)

end Rows
end Go.Proofs.Ytffcclgcgiilmaa
