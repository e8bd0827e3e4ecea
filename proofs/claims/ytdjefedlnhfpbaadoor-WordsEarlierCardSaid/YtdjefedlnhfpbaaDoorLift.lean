/-
  What the statements' proofs share: the listed table in its variable's cells, out of the row's condition; the witness' heap meets the condition.
-/
import Derived.Test.YtdjefedlnhfpbaaDoorCards
import Derived.Test.YtdjefedlnhfpbaaDoorTie
import Derived.Test.YtdjefedlnhfpbaaDoorCallsA
import Derived.ProofKit
import Derived.LaidMore
import Derived.OpenShut
import Derived.Stop.Joined
import Derived.SevenTiedAt
import Derived.Lib.LaidTab
import Derived.Deep.Draws
namespace Go.Proofs.YtdjefedlnhfpbaaDoor
open Go Go.ChangeShapes Go.WideShapes Go.ChangeAt Go.RowKit

theorem ownKnobs : ownKnob Tryd.prog.godebug = none := by kernel_rfl

/-- The row's list. -/
def tabName : String := (Rows.wordsSpansRow.named).headD ""
theorem gTab : Tryd.prog.globalNamed tabName = some 0 := by kernel_rfl
theorem tTab : (Tryd.prog.globals[0]?).map (·.type) = some 42 := by kernel_rfl
theorem cTab : Tryd.prog.cellsOf 42 = 64 := by kernel_rfl
theorem cByte : Tryd.prog.cellsOf 5 = 1 := by kernel_rfl

theorem laid_is : Rows.wordsSpansRow.laid = [(tabName, Lib.tabData .u8 (Lib.deBruijn64tab.map fun n : Nat => (n : Int)))] := by rfl

/-- The door's own heap meets the condition: three closed facts. -/
theorem door_met (os : Os) (args : Array Value) : laidMetH Tryd.prog Rows.wordsSpansRow.laid ((World.doorLaid Tryd.prog 400 os).forCall (fun _ _ => 0) ⟨#[], args, []⟩).memory :=
  laidMetH_of_parts3 (fuel := 8) (laidMet_of_run' 8 (by kernel_rfl) (by kernel_rfl)) (by kernel_rfl) (by kernel_rfl)

theorem tab_of_laid {W : World} (h : laidMetH Tryd.prog Rows.wordsSpansRow.laid W) : Tab W := by
  rw [MakeChecks.laidMetH_plain _ _ _ (by kernel_rfl), laid_is] at h
  have hT := Lib.tabIs_of_head gTab tTab Tryd.underlying42 Tryd.underlying5 cByte cTab h
  intro j hj
  have := hT.cell gTab j (by simp [Lib.deBruijn64tab]; omega)
  rw [this]
  congr 2
  rw [List.getD_eq_getElem?_getD, List.getD_eq_getElem?_getD, List.getElem?_map]
  cases Lib.deBruijn64tab[j]? <;> rfl

theorem i64_bd {x : Int} (h : (Lit.int .i64 x).wf = true) : -9223372036854775808 ≤ x ∧ x ≤ 9223372036854775807 := by
  simp [Lit.wf, IntKind.min, IntKind.max, IntKind.signed, IntKind.bits] at h
  omega

theorem u64_nat {x : Int} (h : (Lit.int .u64 x).wf = true) : ∃ n : Nat, x = (n : Int) ∧ n < 18446744073709551616 := by
  simp [Lit.wf, IntKind.min, IntKind.max, IntKind.signed, IntKind.bits] at h
  exact ⟨x.toNat, by omega, by omega⟩

theorem grown_drewN (W : World) : ∀ n, Grown W (W.drewN n)
  | 0 => Grown.refl W
  | n + 1 => (grown_drewN W n).drew

end Go.Proofs.YtdjefedlnhfpbaaDoor
