/-
  No cell of these rows narrows 'for every input' (looked for: loops, veiled, ifaces, maps, wideKeys, modest, calm, conditions, laid).
  DERIVED. THE GIVEN ROWS OF THIS SEAT. 5 by the template 'for every input the law returns true; each argument reads behind the call as it read before'; 0 by the template 'total and deterministic' (their statements: YtplifdmfoeejaaaGreatTotals.lean).
  GIVEN WITH THE SEED: the statements are not yours to turn. If you find one false, say at which input.
  Laid BY PROGRAM, IN A SANDBOX (cutbox-rows.mjs): the forced cells as the released guide's own fill.sh prints them over the translation 2fc5229163d52ef4… (all of the seat's roots in one cut). By AI agents, Wed Nov 11 2026. No macro, syntax, notation, axiom, sorry.
-/
import Derived.Test.YtplifdmfoeejaaaGreatChecked
import GoSem.Claim
import GoSem.ClaimJoined
import GoSem.ClaimMapViews
import Derived.JoinedTies
import Derived.KernelRfl
namespace Go.Proofs.YtplifdmfoeejaaaGreat
/- THE CELL 'sum', in the pinned program and in every row, IS THE sha256 OF THE DUMP (.gsa) THAT YtplifdmfoeejaaaGreatProg.lean LOADS. Nothing in Lean hashes anything: it is a label: what it is worth is what the hold of that sum in a sandbox is worth. -/
noncomputable def Tryz.pinned : Pinned := { name := "ytplifdmfoeejaaagreat", sum := "2fc5229163d52ef47e22398588b13ad0653725e70de6e6529a79e86923b34fbf", checked := Tryz.checked }
namespace Rows
def none {H : Type} : Left H := { results := [], args := [] }

/-- 'worksteallaw09.OwnerPushes': WHATEVER THE INPUT: true; the input reads as it did. -/
def ownerPushesSpec : ChangeSpec := { name := "ownerPushes", fn := fun _ => fun
  | [d1, d2, d3, d4] => { results := [.lit (.bool true)], args := [d1, d2, d3, d4] }
  | _ => none }
def ownerPushesRow : OpenClaim := { program := "ytplifdmfoeejaaagreat", sum := "2fc5229163d52ef47e22398588b13ad0653725e70de6e6529a79e86923b34fbf", func := "worksteal/worksteallaw09.OwnerPushes", spec := "ownerPushes", unfollowed := true, recurses := true, apart := false }
def OwnerPushesSaid : Prop := ownerPushesRow.holds Tryz.pinned (OpenSpec.ofChange ownerPushesSpec)

/-- ITS FALSE NEIGHBOUR: 'it returns false'. Refute it at one input. -/
def ownerPushesWrong : ChangeSpec := { name := "ownerPushes", fn := fun _ => fun
  | [d1, d2, d3, d4] => { results := [.lit (.bool false)], args := [d1, d2, d3, d4] }
  | _ => none }
def OwnerPushesWrongFalsely : Prop := ownerPushesRow.holds Tryz.pinned (OpenSpec.ofChange ownerPushesWrong)

/-- 'worksteallaw09.OwnerPops': WHATEVER THE INPUT: true; the input reads as it did. -/
def ownerPopsSpec : ChangeSpec := { name := "ownerPops", fn := fun _ => fun
  | [d1, d2, d3] => { results := [.lit (.bool true)], args := [d1, d2, d3] }
  | _ => none }
def ownerPopsRow : OpenClaim := { program := "ytplifdmfoeejaaagreat", sum := "2fc5229163d52ef47e22398588b13ad0653725e70de6e6529a79e86923b34fbf", func := "worksteal/worksteallaw09.OwnerPops", spec := "ownerPops", unfollowed := true, recurses := true, apart := false }
def OwnerPopsSaid : Prop := ownerPopsRow.holds Tryz.pinned (OpenSpec.ofChange ownerPopsSpec)

/-- ITS FALSE NEIGHBOUR: 'it returns false'. Refute it at one input. -/
def ownerPopsWrong : ChangeSpec := { name := "ownerPops", fn := fun _ => fun
  | [d1, d2, d3] => { results := [.lit (.bool false)], args := [d1, d2, d3] }
  | _ => none }
def OwnerPopsWrongFalsely : Prop := ownerPopsRow.holds Tryz.pinned (OpenSpec.ofChange ownerPopsWrong)

/-- 'worksteallaw09.OwnerDeques': WHATEVER THE INPUT: true; the input reads as it did. -/
def ownerDequesSpec : ChangeSpec := { name := "ownerDeques", fn := fun _ => fun
  | [d1, d2, d3, d4, d5, d6, d7] => { results := [.lit (.bool true)], args := [d1, d2, d3, d4, d5, d6, d7] }
  | _ => none }
def ownerDequesRow : OpenClaim := { program := "ytplifdmfoeejaaagreat", sum := "2fc5229163d52ef47e22398588b13ad0653725e70de6e6529a79e86923b34fbf", func := "worksteal/worksteallaw09.OwnerDeques", spec := "ownerDeques", unfollowed := true, recurses := true, apart := false }
def OwnerDequesSaid : Prop := ownerDequesRow.holds Tryz.pinned (OpenSpec.ofChange ownerDequesSpec)

/-- ITS FALSE NEIGHBOUR: 'it returns false'. Refute it at one input. -/
def ownerDequesWrong : ChangeSpec := { name := "ownerDeques", fn := fun _ => fun
  | [d1, d2, d3, d4, d5, d6, d7] => { results := [.lit (.bool false)], args := [d1, d2, d3, d4, d5, d6, d7] }
  | _ => none }
def OwnerDequesWrongFalsely : Prop := ownerDequesRow.holds Tryz.pinned (OpenSpec.ofChange ownerDequesWrong)

/-- 'worksteallaw10.ThiefSteals': WHATEVER THE INPUT: true; the input reads as it did. -/
def thiefStealsSpec : ChangeSpec := { name := "thiefSteals", fn := fun _ => fun
  | [d1, d2, d3] => { results := [.lit (.bool true)], args := [d1, d2, d3] }
  | _ => none }
def thiefStealsRow : OpenClaim := { program := "ytplifdmfoeejaaagreat", sum := "2fc5229163d52ef47e22398588b13ad0653725e70de6e6529a79e86923b34fbf", func := "worksteal/worksteallaw10.ThiefSteals", spec := "thiefSteals", unfollowed := true, recurses := true, apart := false }
def ThiefStealsSaid : Prop := thiefStealsRow.holds Tryz.pinned (OpenSpec.ofChange thiefStealsSpec)

/-- ITS FALSE NEIGHBOUR: 'it returns false'. Refute it at one input. -/
def thiefStealsWrong : ChangeSpec := { name := "thiefSteals", fn := fun _ => fun
  | [d1, d2, d3] => { results := [.lit (.bool false)], args := [d1, d2, d3] }
  | _ => none }
def ThiefStealsWrongFalsely : Prop := thiefStealsRow.holds Tryz.pinned (OpenSpec.ofChange thiefStealsWrong)

/-- 'worksteallaw10.ThiefDeques': WHATEVER THE INPUT: true; the input reads as it did. -/
def thiefDequesSpec : ChangeSpec := { name := "thiefDeques", fn := fun _ => fun
  | [d1, d2, d3, d4, d5] => { results := [.lit (.bool true)], args := [d1, d2, d3, d4, d5] }
  | _ => none }
def thiefDequesRow : OpenClaim := { program := "ytplifdmfoeejaaagreat", sum := "2fc5229163d52ef47e22398588b13ad0653725e70de6e6529a79e86923b34fbf", func := "worksteal/worksteallaw10.ThiefDeques", spec := "thiefDeques", unfollowed := true, recurses := true, apart := false }
def ThiefDequesSaid : Prop := thiefDequesRow.holds Tryz.pinned (OpenSpec.ofChange thiefDequesSpec)

/-- ITS FALSE NEIGHBOUR: 'it returns false'. Refute it at one input. -/
def thiefDequesWrong : ChangeSpec := { name := "thiefDeques", fn := fun _ => fun
  | [d1, d2, d3, d4, d5] => { results := [.lit (.bool false)], args := [d1, d2, d3, d4, d5] }
  | _ => none }
def ThiefDequesWrongFalsely : Prop := thiefDequesRow.holds Tryz.pinned (OpenSpec.ofChange thiefDequesWrong)

/- THE SECOND FORM. 'bulk': how many values and letters a reading holds, each counted each time it is reached (what is shared counts as often as it is met; a slice's spare places count too). A statement '..UptoSaid' is the law's where the arguments, and the package variables that the reading takes, are together of bulk at most 1048576: NARROWER than '..Said'. Prove '..Said' where nothing that the law and all that it calls make is longer than what came in: it says more and counts as full. Else prove '..UptoSaid'. A law counts once. -/
mutual
def uptoBulk {H : Type} : DataW H → Nat
  | .lit (.string bytes) => bytes.length + 1
  | .lit _ => 1
  | .nil => 1
  | .ptr d => uptoBulk d + 1
  | .slice elems spare => uptoBulkAll elems + uptoBulkAll spare + 1
  | .agg parts => uptoBulkAll parts + 1
  | .iface _ d => uptoBulk d + 1
  | .map entries => uptoBulkEntries entries + 1
  | .held _ => 1
def uptoBulkAll {H : Type} : List (DataW H) → Nat
  | [] => 0
  | d :: r => uptoBulk d + uptoBulkAll r
def uptoBulkEntries {H : Type} : List (Lit × DataW H) → Nat
  | [] => 0
  | x :: r => uptoBulkEntry x + uptoBulkEntries r
def uptoBulkEntry {H : Type} : Lit × DataW H → Nat
  | (.string bytes, d) => bytes.length + uptoBulk d + 1
  | (_, d) => uptoBulk d + 1
 end
def uptoSmall : (H : Type) → List (DataW H) → Bool := fun _ ds => decide (uptoBulkAll ds ≤ 1048576)
def OpenSpec.upto (s : _root_.Go.ChangeSpec) : _root_.Go.OpenSpec := { _root_.Go.OpenSpec.ofChange s with cond := some uptoSmall }

/-- 'worksteallaw09.OwnerPushes', WHERE WHAT IT READS IS OF BULK AT MOST 1048576: true; the input reads as it did. -/
def ownerPushesUptoRow : OpenClaim := { program := "ytplifdmfoeejaaagreat", sum := "2fc5229163d52ef47e22398588b13ad0653725e70de6e6529a79e86923b34fbf", func := "worksteal/worksteallaw09.OwnerPushes", spec := "ownerPushes", unfollowed := true, recurses := true, apart := false, narrowed := true }
def OwnerPushesUptoSaid : Prop := ownerPushesUptoRow.holds Tryz.pinned (OpenSpec.upto ownerPushesSpec)

/-- 'worksteallaw09.OwnerPops', WHERE WHAT IT READS IS OF BULK AT MOST 1048576: true; the input reads as it did. -/
def ownerPopsUptoRow : OpenClaim := { program := "ytplifdmfoeejaaagreat", sum := "2fc5229163d52ef47e22398588b13ad0653725e70de6e6529a79e86923b34fbf", func := "worksteal/worksteallaw09.OwnerPops", spec := "ownerPops", unfollowed := true, recurses := true, apart := false, narrowed := true }
def OwnerPopsUptoSaid : Prop := ownerPopsUptoRow.holds Tryz.pinned (OpenSpec.upto ownerPopsSpec)

/-- 'worksteallaw09.OwnerDeques', WHERE WHAT IT READS IS OF BULK AT MOST 1048576: true; the input reads as it did. -/
def ownerDequesUptoRow : OpenClaim := { program := "ytplifdmfoeejaaagreat", sum := "2fc5229163d52ef47e22398588b13ad0653725e70de6e6529a79e86923b34fbf", func := "worksteal/worksteallaw09.OwnerDeques", spec := "ownerDeques", unfollowed := true, recurses := true, apart := false, narrowed := true }
def OwnerDequesUptoSaid : Prop := ownerDequesUptoRow.holds Tryz.pinned (OpenSpec.upto ownerDequesSpec)

/-- 'worksteallaw10.ThiefSteals', WHERE WHAT IT READS IS OF BULK AT MOST 1048576: true; the input reads as it did. -/
def thiefStealsUptoRow : OpenClaim := { program := "ytplifdmfoeejaaagreat", sum := "2fc5229163d52ef47e22398588b13ad0653725e70de6e6529a79e86923b34fbf", func := "worksteal/worksteallaw10.ThiefSteals", spec := "thiefSteals", unfollowed := true, recurses := true, apart := false, narrowed := true }
def ThiefStealsUptoSaid : Prop := thiefStealsUptoRow.holds Tryz.pinned (OpenSpec.upto thiefStealsSpec)

/-- 'worksteallaw10.ThiefDeques', WHERE WHAT IT READS IS OF BULK AT MOST 1048576: true; the input reads as it did. -/
def thiefDequesUptoRow : OpenClaim := { program := "ytplifdmfoeejaaagreat", sum := "2fc5229163d52ef47e22398588b13ad0653725e70de6e6529a79e86923b34fbf", func := "worksteal/worksteallaw10.ThiefDeques", spec := "thiefDeques", unfollowed := true, recurses := true, apart := false, narrowed := true }
def ThiefDequesUptoSaid : Prop := thiefDequesUptoRow.holds Tryz.pinned (OpenSpec.upto thiefDequesSpec)

end Rows
end Go.Proofs.YtplifdmfoeejaaaGreat
