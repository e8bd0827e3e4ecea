/-
  No cell of these rows narrows 'for every input' (looked for: loops, veiled, ifaces, maps, wideKeys, modest, calm, conditions, laid).
  DERIVED. THE GIVEN ROWS OF THIS SEAT. 6 by the template 'for every input the law returns true; each argument reads behind the call as it read before'; 0 by the template 'total and deterministic' (their statements: YtllllbepnnpeeaaTotals.lean).
  GIVEN WITH THE SEED: the statements are not yours to turn. If you find one false, say at which input.
  Laid BY PROGRAM, IN A SANDBOX (cutbox-rows.mjs): the forced cells as the released guide's own fill.sh prints them over the translation 831ab32038101dcd… (all of the seat's roots in one cut). By AI agents, Wed Nov 11 2026. No macro, syntax, notation, axiom, sorry.
-/
import Derived.Test.YtllllbepnnpeeaaChecked
import GoSem.Claim
import GoSem.ClaimJoined
import GoSem.ClaimMapViews
import Derived.JoinedTies
import Derived.KernelRfl
namespace Go.Proofs.Ytllllbepnnpeeaa
/- THE CELL 'sum', in the pinned program and in every row, IS THE sha256 OF THE DUMP (.gsa) THAT YtllllbepnnpeeaaProg.lean LOADS. Nothing in Lean hashes anything: it is a label: what it is worth is what the hold of that sum in a sandbox is worth. -/
noncomputable def Try.pinned : Pinned := { name := "ytllllbepnnpeeaa", sum := "831ab32038101dcd7a9e49a7de622441f3cc87d5680f4ec1a25e8e3c845ded03", checked := Try.checked }
namespace Rows
def none {H : Type} : Left H := { results := [], args := [] }

/-- 'worksteallaw11.HistoryWindows': WHATEVER THE INPUT: true; the input reads as it did. -/
def historyWindowsSpec : ChangeSpec := { name := "historyWindows", fn := fun _ => fun
  | [d1, d2] => { results := [.lit (.bool true)], args := [d1, d2] }
  | _ => none }
def historyWindowsRow : OpenClaim := { program := "ytllllbepnnpeeaa", sum := "831ab32038101dcd7a9e49a7de622441f3cc87d5680f4ec1a25e8e3c845ded03", func := "worksteal/worksteallaw11.HistoryWindows", spec := "historyWindows", unfollowed := true, recurses := true, plainKeys := false, apart := false }
def HistoryWindowsSaid : Prop := historyWindowsRow.holds Try.pinned (OpenSpec.ofChange historyWindowsSpec)

/-- ITS FALSE NEIGHBOUR: 'it returns false'. Refute it at one input. -/
def historyWindowsWrong : ChangeSpec := { name := "historyWindows", fn := fun _ => fun
  | [d1, d2] => { results := [.lit (.bool false)], args := [d1, d2] }
  | _ => none }
def HistoryWindowsWrongFalsely : Prop := historyWindowsRow.holds Try.pinned (OpenSpec.ofChange historyWindowsWrong)

/-- 'worksteallaw11.HistoryLinearizable': WHATEVER THE INPUT: true; the input reads as it did. -/
def historyLinearizableSpec : ChangeSpec := { name := "historyLinearizable", fn := fun _ => fun
  | [d1, d2, d3] => { results := [.lit (.bool true)], args := [d1, d2, d3] }
  | _ => none }
def historyLinearizableRow : OpenClaim := { program := "ytllllbepnnpeeaa", sum := "831ab32038101dcd7a9e49a7de622441f3cc87d5680f4ec1a25e8e3c845ded03", func := "worksteal/worksteallaw11.HistoryLinearizable", spec := "historyLinearizable", unfollowed := true, recurses := true, plainKeys := false, apart := false }
def HistoryLinearizableSaid : Prop := historyLinearizableRow.holds Try.pinned (OpenSpec.ofChange historyLinearizableSpec)

/-- ITS FALSE NEIGHBOUR: 'it returns false'. Refute it at one input. -/
def historyLinearizableWrong : ChangeSpec := { name := "historyLinearizable", fn := fun _ => fun
  | [d1, d2, d3] => { results := [.lit (.bool false)], args := [d1, d2, d3] }
  | _ => none }
def HistoryLinearizableWrongFalsely : Prop := historyLinearizableRow.holds Try.pinned (OpenSpec.ofChange historyLinearizableWrong)

/-- 'worksteallaw11.HistoryConserves': WHATEVER THE INPUT: true; the input reads as it did. -/
def historyConservesSpec : ChangeSpec := { name := "historyConserves", fn := fun _ => fun
  | [d1, d2, d3] => { results := [.lit (.bool true)], args := [d1, d2, d3] }
  | _ => none }
def historyConservesRow : OpenClaim := { program := "ytllllbepnnpeeaa", sum := "831ab32038101dcd7a9e49a7de622441f3cc87d5680f4ec1a25e8e3c845ded03", func := "worksteal/worksteallaw11.HistoryConserves", spec := "historyConserves", unfollowed := true, recurses := true, plainKeys := false, apart := false }
def HistoryConservesSaid : Prop := historyConservesRow.holds Try.pinned (OpenSpec.ofChange historyConservesSpec)

/-- ITS FALSE NEIGHBOUR: 'it returns false'. Refute it at one input. -/
def historyConservesWrong : ChangeSpec := { name := "historyConserves", fn := fun _ => fun
  | [d1, d2, d3] => { results := [.lit (.bool false)], args := [d1, d2, d3] }
  | _ => none }
def HistoryConservesWrongFalsely : Prop := historyConservesRow.holds Try.pinned (OpenSpec.ofChange historyConservesWrong)

/-- 'worksteallaw11.HistoryAborts': WHATEVER THE INPUT: true; the input reads as it did. -/
def historyAbortsSpec : ChangeSpec := { name := "historyAborts", fn := fun _ => fun
  | [d1, d2, d3] => { results := [.lit (.bool true)], args := [d1, d2, d3] }
  | _ => none }
def historyAbortsRow : OpenClaim := { program := "ytllllbepnnpeeaa", sum := "831ab32038101dcd7a9e49a7de622441f3cc87d5680f4ec1a25e8e3c845ded03", func := "worksteal/worksteallaw11.HistoryAborts", spec := "historyAborts", unfollowed := true, recurses := true, plainKeys := false, apart := false }
def HistoryAbortsSaid : Prop := historyAbortsRow.holds Try.pinned (OpenSpec.ofChange historyAbortsSpec)

/-- ITS FALSE NEIGHBOUR: 'it returns false'. Refute it at one input. -/
def historyAbortsWrong : ChangeSpec := { name := "historyAborts", fn := fun _ => fun
  | [d1, d2, d3] => { results := [.lit (.bool false)], args := [d1, d2, d3] }
  | _ => none }
def HistoryAbortsWrongFalsely : Prop := historyAbortsRow.holds Try.pinned (OpenSpec.ofChange historyAbortsWrong)

/-- 'worksteallaw12.BitmapOthers': WHATEVER THE INPUT: true; the input reads as it did. -/
def bitmapOthersSpec : ChangeSpec := { name := "bitmapOthers", fn := fun _ => fun
  | [d1, d2, d3, d4, d5] => { results := [.lit (.bool true)], args := [d1, d2, d3, d4, d5] }
  | _ => none }
def bitmapOthersRow : OpenClaim := { program := "ytllllbepnnpeeaa", sum := "831ab32038101dcd7a9e49a7de622441f3cc87d5680f4ec1a25e8e3c845ded03", func := "worksteal/worksteallaw12.BitmapOthers", spec := "bitmapOthers", unfollowed := true, recurses := true, plainKeys := false, apart := false }
def BitmapOthersSaid : Prop := bitmapOthersRow.holds Try.pinned (OpenSpec.ofChange bitmapOthersSpec)

/-- ITS FALSE NEIGHBOUR: 'it returns false'. Refute it at one input. -/
def bitmapOthersWrong : ChangeSpec := { name := "bitmapOthers", fn := fun _ => fun
  | [d1, d2, d3, d4, d5] => { results := [.lit (.bool false)], args := [d1, d2, d3, d4, d5] }
  | _ => none }
def BitmapOthersWrongFalsely : Prop := bitmapOthersRow.holds Try.pinned (OpenSpec.ofChange bitmapOthersWrong)

/-- 'worksteallaw12.BitmapKeeps': WHATEVER THE INPUT: true; the input reads as it did. -/
def bitmapKeepsSpec : ChangeSpec := { name := "bitmapKeeps", fn := fun _ => fun
  | [d1, d2, d3] => { results := [.lit (.bool true)], args := [d1, d2, d3] }
  | _ => none }
def bitmapKeepsRow : OpenClaim := { program := "ytllllbepnnpeeaa", sum := "831ab32038101dcd7a9e49a7de622441f3cc87d5680f4ec1a25e8e3c845ded03", func := "worksteal/worksteallaw12.BitmapKeeps", spec := "bitmapKeeps", unfollowed := true, recurses := true, plainKeys := false, apart := false }
def BitmapKeepsSaid : Prop := bitmapKeepsRow.holds Try.pinned (OpenSpec.ofChange bitmapKeepsSpec)

/-- ITS FALSE NEIGHBOUR: 'it returns false'. Refute it at one input. -/
def bitmapKeepsWrong : ChangeSpec := { name := "bitmapKeeps", fn := fun _ => fun
  | [d1, d2, d3] => { results := [.lit (.bool false)], args := [d1, d2, d3] }
  | _ => none }
def BitmapKeepsWrongFalsely : Prop := bitmapKeepsRow.holds Try.pinned (OpenSpec.ofChange bitmapKeepsWrong)

/- THE SECOND FORM. 'bulk': how many values and letters a reading holds, each counted each time it is reached (what is shared counts as often as it is met; a slice's spare places count too). A statement '..UptoSaid' is the law's where the arguments, and the package variables that the reading takes, are together of bulk at most 1048576: NARROWER than '..Said'. Prove '..Said' where nothing that the law and all that it calls make is longer than what came in: it says more and counts as full. Else prove '..UptoSaid'. A law counts once. -/
mutual
def uptoBulk {H : Type} : DataW H → Nat
  | .lit (.string bytes) => bytes.length + 1
  | .lit _ => 1
  | .nil => 1
  | .ptr d => uptoBulk d + 1
  | .slice elems spare => uptoBulkAll elems + uptoBulkAll spare + 1
  | .agg parts => uptoBulkAll parts + 1
  | .iface _ d => uptoBulk d + 1
  | .map entries => uptoBulkEntries entries + 1
  | .held _ => 1
def uptoBulkAll {H : Type} : List (DataW H) → Nat
  | [] => 0
  | d :: r => uptoBulk d + uptoBulkAll r
def uptoBulkEntries {H : Type} : List (Lit × DataW H) → Nat
  | [] => 0
  | x :: r => uptoBulkEntry x + uptoBulkEntries r
def uptoBulkEntry {H : Type} : Lit × DataW H → Nat
  | (.string bytes, d) => bytes.length + uptoBulk d + 1
  | (_, d) => uptoBulk d + 1
 end
def uptoSmall : (H : Type) → List (DataW H) → Bool := fun _ ds => decide (uptoBulkAll ds ≤ 1048576)
def OpenSpec.upto (s : _root_.Go.ChangeSpec) : _root_.Go.OpenSpec := { _root_.Go.OpenSpec.ofChange s with cond := some uptoSmall }

/-- 'worksteallaw11.HistoryWindows', WHERE WHAT IT READS IS OF BULK AT MOST 1048576: true; the input reads as it did. -/
def historyWindowsUptoRow : OpenClaim := { program := "ytllllbepnnpeeaa", sum := "831ab32038101dcd7a9e49a7de622441f3cc87d5680f4ec1a25e8e3c845ded03", func := "worksteal/worksteallaw11.HistoryWindows", spec := "historyWindows", unfollowed := true, recurses := true, plainKeys := false, apart := false, narrowed := true }
def HistoryWindowsUptoSaid : Prop := historyWindowsUptoRow.holds Try.pinned (OpenSpec.upto historyWindowsSpec)

/-- 'worksteallaw11.HistoryLinearizable', WHERE WHAT IT READS IS OF BULK AT MOST 1048576: true; the input reads as it did. -/
def historyLinearizableUptoRow : OpenClaim := { program := "ytllllbepnnpeeaa", sum := "831ab32038101dcd7a9e49a7de622441f3cc87d5680f4ec1a25e8e3c845ded03", func := "worksteal/worksteallaw11.HistoryLinearizable", spec := "historyLinearizable", unfollowed := true, recurses := true, plainKeys := false, apart := false, narrowed := true }
def HistoryLinearizableUptoSaid : Prop := historyLinearizableUptoRow.holds Try.pinned (OpenSpec.upto historyLinearizableSpec)

/-- 'worksteallaw11.HistoryConserves', WHERE WHAT IT READS IS OF BULK AT MOST 1048576: true; the input reads as it did. -/
def historyConservesUptoRow : OpenClaim := { program := "ytllllbepnnpeeaa", sum := "831ab32038101dcd7a9e49a7de622441f3cc87d5680f4ec1a25e8e3c845ded03", func := "worksteal/worksteallaw11.HistoryConserves", spec := "historyConserves", unfollowed := true, recurses := true, plainKeys := false, apart := false, narrowed := true }
def HistoryConservesUptoSaid : Prop := historyConservesUptoRow.holds Try.pinned (OpenSpec.upto historyConservesSpec)

/-- 'worksteallaw11.HistoryAborts', WHERE WHAT IT READS IS OF BULK AT MOST 1048576: true; the input reads as it did. -/
def historyAbortsUptoRow : OpenClaim := { program := "ytllllbepnnpeeaa", sum := "831ab32038101dcd7a9e49a7de622441f3cc87d5680f4ec1a25e8e3c845ded03", func := "worksteal/worksteallaw11.HistoryAborts", spec := "historyAborts", unfollowed := true, recurses := true, plainKeys := false, apart := false, narrowed := true }
def HistoryAbortsUptoSaid : Prop := historyAbortsUptoRow.holds Try.pinned (OpenSpec.upto historyAbortsSpec)

/-- 'worksteallaw12.BitmapOthers', WHERE WHAT IT READS IS OF BULK AT MOST 1048576: true; the input reads as it did. -/
def bitmapOthersUptoRow : OpenClaim := { program := "ytllllbepnnpeeaa", sum := "831ab32038101dcd7a9e49a7de622441f3cc87d5680f4ec1a25e8e3c845ded03", func := "worksteal/worksteallaw12.BitmapOthers", spec := "bitmapOthers", unfollowed := true, recurses := true, plainKeys := false, apart := false, narrowed := true }
def BitmapOthersUptoSaid : Prop := bitmapOthersUptoRow.holds Try.pinned (OpenSpec.upto bitmapOthersSpec)

/-- 'worksteallaw12.BitmapKeeps', WHERE WHAT IT READS IS OF BULK AT MOST 1048576: true; the input reads as it did. -/
def bitmapKeepsUptoRow : OpenClaim := { program := "ytllllbepnnpeeaa", sum := "831ab32038101dcd7a9e49a7de622441f3cc87d5680f4ec1a25e8e3c845ded03", func := "worksteal/worksteallaw12.BitmapKeeps", spec := "bitmapKeeps", unfollowed := true, recurses := true, plainKeys := false, apart := false, narrowed := true }
def BitmapKeepsUptoSaid : Prop := bitmapKeepsUptoRow.holds Try.pinned (OpenSpec.upto bitmapKeepsSpec)

end Rows
end Go.Proofs.Ytllllbepnnpeeaa
