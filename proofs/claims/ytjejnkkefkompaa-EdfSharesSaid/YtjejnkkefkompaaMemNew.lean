/-
  A new memory: how many cells, its state, its row. (Names no type but uint64.)
-/
import Derived.Test.YtjejnkkefkompaaMemSt
import Derived.Laws.StructEq
import Derived.Deep.OwnRows
namespace Go.Proofs.Ytjejnkkefkompaa
open Go Go.RowKit

/-- How many cells New makes. -/
def sizeS (c : Int) : Nat := if c ≤ 0 then 0 else if c ≤ 131072 then c.toNat else 131072
/-- A new memory of n cells. -/
def St.new (n : Nat) : St := ⟨List.replicate n 0, 0, 0, 0, 0, 0⟩

theorem made_row (w : World) (n : Nat) (hn : n ≤ 131072) : Row (w.alloc (.cells (madeCells #[.int .u64 0] n) 23)) w.heap.size n n (List.replicate n 0) := by
  refine ⟨by simp, Nat.le_refl _, by unfold maxLen; omega, _, Blk.made _ _ _, by simp [madeCells], ?_⟩
  rw [List.take_of_length_le (by simp [madeCells])]
  simp [madeCells]
  apply List.ext_getElem
  · simp
  · intro i h1 h2
    simp [Nat.mod_one]

theorem info_u64 : (Try.prog.info? 23).map (fun i => (i.zero, i.size, i.bytes)) = some (some (.int .u64 0), 1, 8) := by kernel_rfl
end Go.Proofs.Ytjejnkkefkompaa
