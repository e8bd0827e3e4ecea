/-
  No cell of these rows narrows 'for every input' (looked for: loops, veiled, ifaces, maps, wideKeys, modest, calm, conditions, laid).
  DERIVED. THE GIVEN ROWS OF THIS SEAT. 6 by the template 'for every input the law returns true; each argument reads behind the call as it read before'; 0 by the template 'total and deterministic' (their statements: YtjejnkkefkompaaTotals.lean).
  GIVEN WITH THE SEED: the statements are not yours to turn. If you find one false, say at which input.
  Laid BY PROGRAM, IN A SANDBOX (cutbox-rows.mjs): the forced cells as the released guide's own fill.sh prints them over the translation a574f8fc79a664ce… (all of the seat's roots in one cut). By AI agents, Wed Nov 11 2026. No macro, syntax, notation, axiom, sorry.
-/
import Derived.Test.YtjejnkkefkompaaChecked
import GoSem.Claim
import GoSem.ClaimJoined
import GoSem.ClaimMapViews
import Derived.JoinedTies
import Derived.KernelRfl
namespace Go.Proofs.Ytjejnkkefkompaa
/- THE CELL 'sum', in the pinned program and in every row, IS THE sha256 OF THE DUMP (.gsa) THAT YtjejnkkefkompaaProg.lean LOADS. Nothing in Lean hashes anything: it is a label: what it is worth is what the hold of that sum in a sandbox is worth. -/
noncomputable def Try.pinned : Pinned := { name := "ytjejnkkefkompaa", sum := "a574f8fc79a664cee611b59a2b070b8f9b640b12638002506aa041a6a870c3bc", checked := Try.checked }
namespace Rows
def none {H : Type} : Left H := { results := [], args := [] }

/-- 'worksteallaw14.EdfPushes': WHATEVER THE INPUT: true; the input reads as it did. -/
def edfPushesSpec : ChangeSpec := { name := "edfPushes", fn := fun _ => fun
  | [d1, d2] => { results := [.lit (.bool true)], args := [d1, d2] }
  | _ => none }
def edfPushesRow : OpenClaim := { program := "ytjejnkkefkompaa", sum := "a574f8fc79a664cee611b59a2b070b8f9b640b12638002506aa041a6a870c3bc", func := "worksteal/worksteallaw14.EdfPushes", spec := "edfPushes", apart := false }
def EdfPushesSaid : Prop := edfPushesRow.holds Try.pinned (OpenSpec.ofChange edfPushesSpec)

/-- ITS FALSE NEIGHBOUR: 'it returns false'. Refute it at one input. -/
def edfPushesWrong : ChangeSpec := { name := "edfPushes", fn := fun _ => fun
  | [d1, d2] => { results := [.lit (.bool false)], args := [d1, d2] }
  | _ => none }
def EdfPushesWrongFalsely : Prop := edfPushesRow.holds Try.pinned (OpenSpec.ofChange edfPushesWrong)

/-- 'worksteallaw14.EdfPops': WHATEVER THE INPUT: true; the input reads as it did. -/
def edfPopsSpec : ChangeSpec := { name := "edfPops", fn := fun _ => fun
  | [d] => { results := [.lit (.bool true)], args := [d] }
  | _ => none }
def edfPopsRow : OpenClaim := { program := "ytjejnkkefkompaa", sum := "a574f8fc79a664cee611b59a2b070b8f9b640b12638002506aa041a6a870c3bc", func := "worksteal/worksteallaw14.EdfPops", spec := "edfPops", apart := false }
def EdfPopsSaid : Prop := edfPopsRow.holds Try.pinned (OpenSpec.ofChange edfPopsSpec)

/-- ITS FALSE NEIGHBOUR: 'it returns false'. Refute it at one input. -/
def edfPopsWrong : ChangeSpec := { name := "edfPops", fn := fun _ => fun
  | [d] => { results := [.lit (.bool false)], args := [d] }
  | _ => none }
def EdfPopsWrongFalsely : Prop := edfPopsRow.holds Try.pinned (OpenSpec.ofChange edfPopsWrong)

/-- 'worksteallaw14.EdfValid': WHATEVER THE INPUT: true; the input reads as it did. -/
def edfValidSpec : ChangeSpec := { name := "edfValid", fn := fun _ => fun
  | [d] => { results := [.lit (.bool true)], args := [d] }
  | _ => none }
def edfValidRow : OpenClaim := { program := "ytjejnkkefkompaa", sum := "a574f8fc79a664cee611b59a2b070b8f9b640b12638002506aa041a6a870c3bc", func := "worksteal/worksteallaw14.EdfValid", spec := "edfValid", recurses := true, apart := false }
def EdfValidSaid : Prop := edfValidRow.holds Try.pinned (OpenSpec.ofChange edfValidSpec)

/-- ITS FALSE NEIGHBOUR: 'it returns false'. Refute it at one input. -/
def edfValidWrong : ChangeSpec := { name := "edfValid", fn := fun _ => fun
  | [d] => { results := [.lit (.bool false)], args := [d] }
  | _ => none }
def EdfValidWrongFalsely : Prop := edfValidRow.holds Try.pinned (OpenSpec.ofChange edfValidWrong)

/-- 'worksteallaw14.EdfKeeps': WHATEVER THE INPUT: true; the input reads as it did. -/
def edfKeepsSpec : ChangeSpec := { name := "edfKeeps", fn := fun _ => fun
  | [d] => { results := [.lit (.bool true)], args := [d] }
  | _ => none }
def edfKeepsRow : OpenClaim := { program := "ytjejnkkefkompaa", sum := "a574f8fc79a664cee611b59a2b070b8f9b640b12638002506aa041a6a870c3bc", func := "worksteal/worksteallaw14.EdfKeeps", spec := "edfKeeps", apart := false }
def EdfKeepsSaid : Prop := edfKeepsRow.holds Try.pinned (OpenSpec.ofChange edfKeepsSpec)

/-- ITS FALSE NEIGHBOUR: 'it returns false'. Refute it at one input. -/
def edfKeepsWrong : ChangeSpec := { name := "edfKeeps", fn := fun _ => fun
  | [d] => { results := [.lit (.bool false)], args := [d] }
  | _ => none }
def EdfKeepsWrongFalsely : Prop := edfKeepsRow.holds Try.pinned (OpenSpec.ofChange edfKeepsWrong)

/-- 'worksteallaw14.EdfSorts': WHATEVER THE INPUT: true; the input reads as it did. -/
def edfSortsSpec : ChangeSpec := { name := "edfSorts", fn := fun _ => fun
  | [d] => { results := [.lit (.bool true)], args := [d] }
  | _ => none }
def edfSortsRow : OpenClaim := { program := "ytjejnkkefkompaa", sum := "a574f8fc79a664cee611b59a2b070b8f9b640b12638002506aa041a6a870c3bc", func := "worksteal/worksteallaw14.EdfSorts", spec := "edfSorts", recurses := true, apart := false }
def EdfSortsSaid : Prop := edfSortsRow.holds Try.pinned (OpenSpec.ofChange edfSortsSpec)

/-- ITS FALSE NEIGHBOUR: 'it returns false'. Refute it at one input. -/
def edfSortsWrong : ChangeSpec := { name := "edfSorts", fn := fun _ => fun
  | [d] => { results := [.lit (.bool false)], args := [d] }
  | _ => none }
def EdfSortsWrongFalsely : Prop := edfSortsRow.holds Try.pinned (OpenSpec.ofChange edfSortsWrong)

/-- 'worksteallaw14.EdfShares': WHATEVER THE INPUT: true; the input reads as it did. -/
def edfSharesSpec : ChangeSpec := { name := "edfShares", fn := fun _ => fun
  | [d1, d2] => { results := [.lit (.bool true)], args := [d1, d2] }
  | _ => none }
def edfSharesRow : OpenClaim := { program := "ytjejnkkefkompaa", sum := "a574f8fc79a664cee611b59a2b070b8f9b640b12638002506aa041a6a870c3bc", func := "worksteal/worksteallaw14.EdfShares", spec := "edfShares", recurses := true, apart := false }
def EdfSharesSaid : Prop := edfSharesRow.holds Try.pinned (OpenSpec.ofChange edfSharesSpec)

/-- ITS FALSE NEIGHBOUR: 'it returns false'. Refute it at one input. -/
def edfSharesWrong : ChangeSpec := { name := "edfShares", fn := fun _ => fun
  | [d1, d2] => { results := [.lit (.bool false)], args := [d1, d2] }
  | _ => none }
def EdfSharesWrongFalsely : Prop := edfSharesRow.holds Try.pinned (OpenSpec.ofChange edfSharesWrong)

/- THE SECOND FORM. 'bulk': how many values and letters a reading holds, each counted each time it is reached (what is shared counts as often as it is met; a slice's spare places count too). A statement '..UptoSaid' is the law's where the arguments, and the package variables that the reading takes, are together of bulk at most 1048576: NARROWER than '..Said'. Prove '..Said' where nothing that the law and all that it calls make is longer than what came in: it says more and counts as full. Else prove '..UptoSaid'. A law counts once. -/
mutual
def uptoBulk {H : Type} : DataW H → Nat
  | .lit (.string bytes) => bytes.length + 1
  | .lit _ => 1
  | .nil => 1
  | .ptr d => uptoBulk d + 1
  | .slice elems spare => uptoBulkAll elems + uptoBulkAll spare + 1
  | .agg parts => uptoBulkAll parts + 1
  | .iface _ d => uptoBulk d + 1
  | .map entries => uptoBulkEntries entries + 1
  | .held _ => 1
def uptoBulkAll {H : Type} : List (DataW H) → Nat
  | [] => 0
  | d :: r => uptoBulk d + uptoBulkAll r
def uptoBulkEntries {H : Type} : List (Lit × DataW H) → Nat
  | [] => 0
  | x :: r => uptoBulkEntry x + uptoBulkEntries r
def uptoBulkEntry {H : Type} : Lit × DataW H → Nat
  | (.string bytes, d) => bytes.length + uptoBulk d + 1
  | (_, d) => uptoBulk d + 1
 end
def uptoSmall : (H : Type) → List (DataW H) → Bool := fun _ ds => decide (uptoBulkAll ds ≤ 1048576)
def OpenSpec.upto (s : _root_.Go.ChangeSpec) : _root_.Go.OpenSpec := { _root_.Go.OpenSpec.ofChange s with cond := some uptoSmall }

/-- 'worksteallaw14.EdfPushes', WHERE WHAT IT READS IS OF BULK AT MOST 1048576: true; the input reads as it did. -/
def edfPushesUptoRow : OpenClaim := { program := "ytjejnkkefkompaa", sum := "a574f8fc79a664cee611b59a2b070b8f9b640b12638002506aa041a6a870c3bc", func := "worksteal/worksteallaw14.EdfPushes", spec := "edfPushes", apart := false, narrowed := true }
def EdfPushesUptoSaid : Prop := edfPushesUptoRow.holds Try.pinned (OpenSpec.upto edfPushesSpec)

/-- 'worksteallaw14.EdfPops', WHERE WHAT IT READS IS OF BULK AT MOST 1048576: true; the input reads as it did. -/
def edfPopsUptoRow : OpenClaim := { program := "ytjejnkkefkompaa", sum := "a574f8fc79a664cee611b59a2b070b8f9b640b12638002506aa041a6a870c3bc", func := "worksteal/worksteallaw14.EdfPops", spec := "edfPops", apart := false, narrowed := true }
def EdfPopsUptoSaid : Prop := edfPopsUptoRow.holds Try.pinned (OpenSpec.upto edfPopsSpec)

/-- 'worksteallaw14.EdfValid', WHERE WHAT IT READS IS OF BULK AT MOST 1048576: true; the input reads as it did. -/
def edfValidUptoRow : OpenClaim := { program := "ytjejnkkefkompaa", sum := "a574f8fc79a664cee611b59a2b070b8f9b640b12638002506aa041a6a870c3bc", func := "worksteal/worksteallaw14.EdfValid", spec := "edfValid", recurses := true, apart := false, narrowed := true }
def EdfValidUptoSaid : Prop := edfValidUptoRow.holds Try.pinned (OpenSpec.upto edfValidSpec)

/-- 'worksteallaw14.EdfKeeps', WHERE WHAT IT READS IS OF BULK AT MOST 1048576: true; the input reads as it did. -/
def edfKeepsUptoRow : OpenClaim := { program := "ytjejnkkefkompaa", sum := "a574f8fc79a664cee611b59a2b070b8f9b640b12638002506aa041a6a870c3bc", func := "worksteal/worksteallaw14.EdfKeeps", spec := "edfKeeps", apart := false, narrowed := true }
def EdfKeepsUptoSaid : Prop := edfKeepsUptoRow.holds Try.pinned (OpenSpec.upto edfKeepsSpec)

/-- 'worksteallaw14.EdfSorts', WHERE WHAT IT READS IS OF BULK AT MOST 1048576: true; the input reads as it did. -/
def edfSortsUptoRow : OpenClaim := { program := "ytjejnkkefkompaa", sum := "a574f8fc79a664cee611b59a2b070b8f9b640b12638002506aa041a6a870c3bc", func := "worksteal/worksteallaw14.EdfSorts", spec := "edfSorts", recurses := true, apart := false, narrowed := true }
def EdfSortsUptoSaid : Prop := edfSortsUptoRow.holds Try.pinned (OpenSpec.upto edfSortsSpec)

/-- 'worksteallaw14.EdfShares', WHERE WHAT IT READS IS OF BULK AT MOST 1048576: true; the input reads as it did. -/
def edfSharesUptoRow : OpenClaim := { program := "ytjejnkkefkompaa", sum := "a574f8fc79a664cee611b59a2b070b8f9b640b12638002506aa041a6a870c3bc", func := "worksteal/worksteallaw14.EdfShares", spec := "edfShares", recurses := true, apart := false, narrowed := true }
def EdfSharesUptoSaid : Prop := edfSharesUptoRow.holds Try.pinned (OpenSpec.upto edfSharesSpec)

end Rows
end Go.Proofs.Ytjejnkkefkompaa
