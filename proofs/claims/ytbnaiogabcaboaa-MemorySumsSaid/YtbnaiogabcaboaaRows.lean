/-
  No cell of these rows narrows 'for every input' (looked for: loops, veiled, ifaces, maps, wideKeys, modest, calm, conditions, laid).
  DERIVED. THE GIVEN ROWS OF THIS SEAT. 6 by the template 'for every input the law returns true; each argument reads behind the call as it read before'; 0 by the template 'total and deterministic' (their statements: YtbnaiogabcaboaaTotals.lean).
  GIVEN WITH THE SEED: the statements are not yours to turn. If you find one false, say at which input.
  Laid BY PROGRAM, IN A SANDBOX (cutbox-rows.mjs): the forced cells as the released guide's own fill.sh prints them over the translation 9dec19bb0be6b8c0… (all of the seat's roots in one cut). By AI agents, Wed Nov 11 2026. No macro, syntax, notation, axiom, sorry.
-/
import Derived.Test.YtbnaiogabcaboaaChecked
import GoSem.Claim
import GoSem.ClaimJoined
import GoSem.ClaimMapViews
import Derived.JoinedTies
import Derived.KernelRfl
namespace Go.Proofs.Ytbnaiogabcaboaa
/- THE CELL 'sum', in the pinned program and in every row, IS THE sha256 OF THE DUMP (.gsa) THAT YtbnaiogabcaboaaProg.lean LOADS. Nothing in Lean hashes anything: it is a label: what it is worth is what the hold of that sum in a sandbox is worth. -/
noncomputable def Try.pinned : Pinned := { name := "ytbnaiogabcaboaa", sum := "9dec19bb0be6b8c0338353975d40d63bd1fd117ddbfffaed88be7e9747a246fe", checked := Try.checked }
namespace Rows
def none {H : Type} : Left H := { results := [], args := [] }

/-- 'worksteallaw02.MemoryPlays': WHATEVER THE INPUT: true; the input reads as it did. -/
def memoryPlaysSpec : ChangeSpec := { name := "memoryPlays", fn := fun _ => fun
  | [d1, d2] => { results := [.lit (.bool true)], args := [d1, d2] }
  | _ => none }
def memoryPlaysRow : OpenClaim := { program := "ytbnaiogabcaboaa", sum := "9dec19bb0be6b8c0338353975d40d63bd1fd117ddbfffaed88be7e9747a246fe", func := "worksteal/worksteallaw02.MemoryPlays", spec := "memoryPlays", unfollowed := true, recurses := true, apart := false }
def MemoryPlaysSaid : Prop := memoryPlaysRow.holds Try.pinned (OpenSpec.ofChange memoryPlaysSpec)

/-- ITS FALSE NEIGHBOUR: 'it returns false'. Refute it at one input. -/
def memoryPlaysWrong : ChangeSpec := { name := "memoryPlays", fn := fun _ => fun
  | [d1, d2] => { results := [.lit (.bool false)], args := [d1, d2] }
  | _ => none }
def MemoryPlaysWrongFalsely : Prop := memoryPlaysRow.holds Try.pinned (OpenSpec.ofChange memoryPlaysWrong)

/-- 'worksteallaw02.MemorySizes': WHATEVER THE INPUT: true; the input reads as it did. -/
def memorySizesSpec : ChangeSpec := { name := "memorySizes", fn := fun _ => fun
  | [d] => { results := [.lit (.bool true)], args := [d] }
  | _ => none }
def memorySizesRow : OpenClaim := { program := "ytbnaiogabcaboaa", sum := "9dec19bb0be6b8c0338353975d40d63bd1fd117ddbfffaed88be7e9747a246fe", func := "worksteal/worksteallaw02.MemorySizes", spec := "memorySizes", unfollowed := true, recurses := true, apart := false }
def MemorySizesSaid : Prop := memorySizesRow.holds Try.pinned (OpenSpec.ofChange memorySizesSpec)

/-- ITS FALSE NEIGHBOUR: 'it returns false'. Refute it at one input. -/
def memorySizesWrong : ChangeSpec := { name := "memorySizes", fn := fun _ => fun
  | [d] => { results := [.lit (.bool false)], args := [d] }
  | _ => none }
def MemorySizesWrongFalsely : Prop := memorySizesRow.holds Try.pinned (OpenSpec.ofChange memorySizesWrong)

/-- 'worksteallaw02.MemoryCopies': WHATEVER THE INPUT: true; the input reads as it did. -/
def memoryCopiesSpec : ChangeSpec := { name := "memoryCopies", fn := fun _ => fun
  | [d1, d2, d3] => { results := [.lit (.bool true)], args := [d1, d2, d3] }
  | _ => none }
def memoryCopiesRow : OpenClaim := { program := "ytbnaiogabcaboaa", sum := "9dec19bb0be6b8c0338353975d40d63bd1fd117ddbfffaed88be7e9747a246fe", func := "worksteal/worksteallaw02.MemoryCopies", spec := "memoryCopies", unfollowed := true, recurses := true, apart := false }
def MemoryCopiesSaid : Prop := memoryCopiesRow.holds Try.pinned (OpenSpec.ofChange memoryCopiesSpec)

/-- ITS FALSE NEIGHBOUR: 'it returns false'. Refute it at one input. -/
def memoryCopiesWrong : ChangeSpec := { name := "memoryCopies", fn := fun _ => fun
  | [d1, d2, d3] => { results := [.lit (.bool false)], args := [d1, d2, d3] }
  | _ => none }
def MemoryCopiesWrongFalsely : Prop := memoryCopiesRow.holds Try.pinned (OpenSpec.ofChange memoryCopiesWrong)

/-- 'worksteallaw02.MemorySums': WHATEVER THE INPUT: true; the input reads as it did. -/
def memorySumsSpec : ChangeSpec := { name := "memorySums", fn := fun _ => fun
  | [d] => { results := [.lit (.bool true)], args := [d] }
  | _ => none }
def memorySumsRow : OpenClaim := { program := "ytbnaiogabcaboaa", sum := "9dec19bb0be6b8c0338353975d40d63bd1fd117ddbfffaed88be7e9747a246fe", func := "worksteal/worksteallaw02.MemorySums", spec := "memorySums", unfollowed := true, recurses := true, apart := false }
def MemorySumsSaid : Prop := memorySumsRow.holds Try.pinned (OpenSpec.ofChange memorySumsSpec)

/-- ITS FALSE NEIGHBOUR: 'it returns false'. Refute it at one input. -/
def memorySumsWrong : ChangeSpec := { name := "memorySums", fn := fun _ => fun
  | [d] => { results := [.lit (.bool false)], args := [d] }
  | _ => none }
def MemorySumsWrongFalsely : Prop := memorySumsRow.holds Try.pinned (OpenSpec.ofChange memorySumsWrong)

/-- 'worksteallaw02.MemoryBits': WHATEVER THE INPUT: true; the input reads as it did. -/
def memoryBitsSpec : ChangeSpec := { name := "memoryBits", fn := fun _ => fun
  | [d1, d2] => { results := [.lit (.bool true)], args := [d1, d2] }
  | _ => none }
def memoryBitsRow : OpenClaim := { program := "ytbnaiogabcaboaa", sum := "9dec19bb0be6b8c0338353975d40d63bd1fd117ddbfffaed88be7e9747a246fe", func := "worksteal/worksteallaw02.MemoryBits", spec := "memoryBits", unfollowed := true, recurses := true, apart := false }
def MemoryBitsSaid : Prop := memoryBitsRow.holds Try.pinned (OpenSpec.ofChange memoryBitsSpec)

/-- ITS FALSE NEIGHBOUR: 'it returns false'. Refute it at one input. -/
def memoryBitsWrong : ChangeSpec := { name := "memoryBits", fn := fun _ => fun
  | [d1, d2] => { results := [.lit (.bool false)], args := [d1, d2] }
  | _ => none }
def MemoryBitsWrongFalsely : Prop := memoryBitsRow.holds Try.pinned (OpenSpec.ofChange memoryBitsWrong)

/-- 'worksteallaw02.MemoryOnce': WHATEVER THE INPUT: true; the input reads as it did. -/
def memoryOnceSpec : ChangeSpec := { name := "memoryOnce", fn := fun _ => fun
  | [d1, d2] => { results := [.lit (.bool true)], args := [d1, d2] }
  | _ => none }
def memoryOnceRow : OpenClaim := { program := "ytbnaiogabcaboaa", sum := "9dec19bb0be6b8c0338353975d40d63bd1fd117ddbfffaed88be7e9747a246fe", func := "worksteal/worksteallaw02.MemoryOnce", spec := "memoryOnce", unfollowed := true, recurses := true, apart := false }
def MemoryOnceSaid : Prop := memoryOnceRow.holds Try.pinned (OpenSpec.ofChange memoryOnceSpec)

/-- ITS FALSE NEIGHBOUR: 'it returns false'. Refute it at one input. -/
def memoryOnceWrong : ChangeSpec := { name := "memoryOnce", fn := fun _ => fun
  | [d1, d2] => { results := [.lit (.bool false)], args := [d1, d2] }
  | _ => none }
def MemoryOnceWrongFalsely : Prop := memoryOnceRow.holds Try.pinned (OpenSpec.ofChange memoryOnceWrong)

/- THE SECOND FORM. 'bulk': how many values and letters a reading holds, each counted each time it is reached (what is shared counts as often as it is met; a slice's spare places count too). A statement '..UptoSaid' is the law's where the arguments, and the package variables that the reading takes, are together of bulk at most 1048576: NARROWER than '..Said'. Prove '..Said' where nothing that the law and all that it calls make is longer than what came in: it says more and counts as full. Else prove '..UptoSaid'. A law counts once. -/
mutual
def uptoBulk {H : Type} : DataW H → Nat
  | .lit (.string bytes) => bytes.length + 1
  | .lit _ => 1
  | .nil => 1
  | .ptr d => uptoBulk d + 1
  | .slice elems spare => uptoBulkAll elems + uptoBulkAll spare + 1
  | .agg parts => uptoBulkAll parts + 1
  | .iface _ d => uptoBulk d + 1
  | .map entries => uptoBulkEntries entries + 1
  | .held _ => 1
def uptoBulkAll {H : Type} : List (DataW H) → Nat
  | [] => 0
  | d :: r => uptoBulk d + uptoBulkAll r
def uptoBulkEntries {H : Type} : List (Lit × DataW H) → Nat
  | [] => 0
  | x :: r => uptoBulkEntry x + uptoBulkEntries r
def uptoBulkEntry {H : Type} : Lit × DataW H → Nat
  | (.string bytes, d) => bytes.length + uptoBulk d + 1
  | (_, d) => uptoBulk d + 1
 end
def uptoSmall : (H : Type) → List (DataW H) → Bool := fun _ ds => decide (uptoBulkAll ds ≤ 1048576)
def OpenSpec.upto (s : _root_.Go.ChangeSpec) : _root_.Go.OpenSpec := { _root_.Go.OpenSpec.ofChange s with cond := some uptoSmall }

/-- 'worksteallaw02.MemoryPlays', WHERE WHAT IT READS IS OF BULK AT MOST 1048576: true; the input reads as it did. -/
def memoryPlaysUptoRow : OpenClaim := { program := "ytbnaiogabcaboaa", sum := "9dec19bb0be6b8c0338353975d40d63bd1fd117ddbfffaed88be7e9747a246fe", func := "worksteal/worksteallaw02.MemoryPlays", spec := "memoryPlays", unfollowed := true, recurses := true, apart := false, narrowed := true }
def MemoryPlaysUptoSaid : Prop := memoryPlaysUptoRow.holds Try.pinned (OpenSpec.upto memoryPlaysSpec)

/-- 'worksteallaw02.MemorySizes', WHERE WHAT IT READS IS OF BULK AT MOST 1048576: true; the input reads as it did. -/
def memorySizesUptoRow : OpenClaim := { program := "ytbnaiogabcaboaa", sum := "9dec19bb0be6b8c0338353975d40d63bd1fd117ddbfffaed88be7e9747a246fe", func := "worksteal/worksteallaw02.MemorySizes", spec := "memorySizes", unfollowed := true, recurses := true, apart := false, narrowed := true }
def MemorySizesUptoSaid : Prop := memorySizesUptoRow.holds Try.pinned (OpenSpec.upto memorySizesSpec)

/-- 'worksteallaw02.MemoryCopies', WHERE WHAT IT READS IS OF BULK AT MOST 1048576: true; the input reads as it did. -/
def memoryCopiesUptoRow : OpenClaim := { program := "ytbnaiogabcaboaa", sum := "9dec19bb0be6b8c0338353975d40d63bd1fd117ddbfffaed88be7e9747a246fe", func := "worksteal/worksteallaw02.MemoryCopies", spec := "memoryCopies", unfollowed := true, recurses := true, apart := false, narrowed := true }
def MemoryCopiesUptoSaid : Prop := memoryCopiesUptoRow.holds Try.pinned (OpenSpec.upto memoryCopiesSpec)

/-- 'worksteallaw02.MemorySums', WHERE WHAT IT READS IS OF BULK AT MOST 1048576: true; the input reads as it did. -/
def memorySumsUptoRow : OpenClaim := { program := "ytbnaiogabcaboaa", sum := "9dec19bb0be6b8c0338353975d40d63bd1fd117ddbfffaed88be7e9747a246fe", func := "worksteal/worksteallaw02.MemorySums", spec := "memorySums", unfollowed := true, recurses := true, apart := false, narrowed := true }
def MemorySumsUptoSaid : Prop := memorySumsUptoRow.holds Try.pinned (OpenSpec.upto memorySumsSpec)

/-- 'worksteallaw02.MemoryBits', WHERE WHAT IT READS IS OF BULK AT MOST 1048576: true; the input reads as it did. -/
def memoryBitsUptoRow : OpenClaim := { program := "ytbnaiogabcaboaa", sum := "9dec19bb0be6b8c0338353975d40d63bd1fd117ddbfffaed88be7e9747a246fe", func := "worksteal/worksteallaw02.MemoryBits", spec := "memoryBits", unfollowed := true, recurses := true, apart := false, narrowed := true }
def MemoryBitsUptoSaid : Prop := memoryBitsUptoRow.holds Try.pinned (OpenSpec.upto memoryBitsSpec)

/-- 'worksteallaw02.MemoryOnce', WHERE WHAT IT READS IS OF BULK AT MOST 1048576: true; the input reads as it did. -/
def memoryOnceUptoRow : OpenClaim := { program := "ytbnaiogabcaboaa", sum := "9dec19bb0be6b8c0338353975d40d63bd1fd117ddbfffaed88be7e9747a246fe", func := "worksteal/worksteallaw02.MemoryOnce", spec := "memoryOnce", unfollowed := true, recurses := true, apart := false, narrowed := true }
def MemoryOnceUptoSaid : Prop := memoryOnceUptoRow.holds Try.pinned (OpenSpec.upto memoryOnceSpec)

end Rows
end Go.Proofs.Ytbnaiogabcaboaa
