/-
  Package lock, plain mathematics: what Acquire, Try and Release leave in a memory.
  A new memory: how many cells, its state, its row. (Names no type but uint64.)
  Words for memory: rows of uint64 cells, and what a memory and the reference's memory hold.
-/
import Derived.Test.YtclbkmhlgopcaaaMgAB
import Derived.Laws.StructEq
import Derived.Deep.OwnRows
namespace Go.Proofs.Ytclbkmhlgopcaaa
open Go Go.RowKit
set_option linter.unusedSimpArgs false

/-- What the lock contains while owner a holds it. -/
def lkU (a : Int) : Int := IntKind.u64.wrap (IntKind.u64.wrap a + 1)
/-- The state behind an owner's CAS. -/
def lkTake (s : St) (a : Int) : St := s.go 3 1 fun x => if x = 0 then lkU a else x
def acqS (s : St) (f : Fra) : St × Fra × Res := (lkTake s f.fa, f, if s.hit 1 0 then ⟨true, 1, 0⟩ else .none)
def tryS (s : St) (f : Fra) : St × Fra × Res := (lkTake s f.fa, f, if s.hit 1 0 then ⟨true, 1, 0⟩ else ⟨true, 5, 0⟩)
def relS (s : St) (f : Fra) : St × Fra × Res := (s.go 2 1 fun _ => 0, f, ⟨true, 0, 0⟩)
theorem lkU_eq (a : Int) : IntKind.u64.wrap (wrap64 (a + 1)) = lkU a := by
  unfold lkU wrap64
  rw [IntKind.wrap_u64, IntKind.wrap_u64, IntKind.wrap_u64]
  omega
end Go.Proofs.Ytclbkmhlgopcaaa

namespace Go.Proofs.Ytclbkmhlgopcaaa
open Go Go.RowKit

/-- How many cells New makes. -/
def sizeS (c : Int) : Nat := if c ≤ 0 then 0 else if c ≤ 131072 then c.toNat else 131072
/-- A new memory of n cells. -/
def St.new (n : Nat) : St := ⟨List.replicate n 0, 0, 0, 0, 0, 0⟩

theorem made_row (w : World) (n : Nat) (hn : n ≤ 131072) : Row (w.alloc (.cells (madeCells #[.int .u64 0] n) 51)) w.heap.size n n (List.replicate n 0) := by
  refine ⟨by simp, Nat.le_refl _, by unfold maxLen; omega, _, Blk.made _ _ _, by simp [madeCells], ?_⟩
  rw [List.take_of_length_le (by simp [madeCells])]
  simp [madeCells]
  apply List.ext_getElem
  · simp
  · intro i h1 h2
    simp [Nat.mod_one]

theorem info_u64 : (Try.prog.info? 51).map (fun i => (i.zero, i.size, i.bytes)) = some (some (.int .u64 0), 1, 8) := by kernel_rfl
end Go.Proofs.Ytclbkmhlgopcaaa

namespace Go.Proofs.Ytclbkmhlgopcaaa
open Go Go.RowKit

/-- Block p is a memory (of the program) with its cells in block g, in state s. -/
structure Mem (w : World) (p g cap : Nat) (s : St) : Prop where
  blk : Blk w p 84 #[.slice (some ⟨g, 0, none⟩) s.X.length cap, .int .i64 s.c, .int .i64 s.k, .int .i64 s.i, .int .u64 s.o, .int .u64 s.v]
  row : Row w g s.X.length cap s.X
  small : s.X.length ≤ 131072

theorem Mem.ne {w : World} {p g cap : Nat} {s : St} (h : Mem w p g cap s) : p ≠ g := by
  obtain ⟨cur, hb, _⟩ := h.row.blk
  exact h.blk.apart hb (by decide)
theorem Mem.of_same {w w' : World} {p g cap : Nat} {s : St} (h : Mem w p g cap s) (e : w'.heap[p]? = w.heap[p]?) (e' : w'.heap[g]? = w.heap[g]?) : Mem w' p g cap s := ⟨h.blk.of_same e, h.row.of_same e', h.small⟩
theorem Mem.fr {S : List Nat} {w w' : World} {p g cap : Nat} {s : St} (h : Mem w p g cap s) (f : Fr S w w') (hp : p ∉ S) (hg : g ∉ S) : Mem w' p g cap s := h.of_same (f.block p h.blk.lt hp) (f.block g h.row.lt hg)
theorem Mem.alloc {w : World} {p g cap : Nat} {s : St} (h : Mem w p g cap s) (o : Obj) : Mem (w.alloc o) p g cap s := h.of_same (Below.heap_alloc w o p h.blk.lt) (Below.heap_alloc w o g h.row.lt)
theorem Mem.drewN {w : World} {p g cap : Nat} {s : St} (h : Mem w p g cap s) (n : Nat) : Mem (w.drewN n) p g cap s := h.of_same rfl rfl
/-- The walk's end, for an access: the cell, the count and the last access have been written. -/
theorem Mem.acc {w : World} {p g cap : Nat} {s : St} (h : Mem w p g cap s) (k : Int) {j : Nat} (y : Int) :
    Mem ((((((w.setCell ⟨g, j, none⟩ (.int .u64 y)).setCell ⟨p, 1, none⟩ (.int .i64 (wrap64 (s.c + 1)))).setCell ⟨p, 2, none⟩ (.int .i64 k)).setCell ⟨p, 3, none⟩ (.int .i64 j)).setCell ⟨p, 4, none⟩ (.int .u64 (s.X.getD j 0))).setCell ⟨p, 5, none⟩ (.int .u64 y)) p g cap (s.acc k j y) := by
  have hne := h.ne
  have b := (((((h.blk.of_same (Below.heap_setCell w ⟨g, j, none⟩ (.int .u64 y) p hne)).put 1 (.int .i64 (wrap64 (s.c + 1)))).put 2 (.int .i64 k)).put 3 (.int .i64 j)).put 4 (.int .u64 (s.X.getD j 0))).put 5 (.int .u64 y)
  have r := h.row.put (i := j) y
  refine ⟨?_, ?_, by simpa [St.acc] using h.small⟩
  · simpa [St.acc] using b
  · have e : (s.acc k j y).X.length = s.X.length := by simp [St.acc]
    rw [e]
    refine r.of_same ?_
    rw [Below.heap_setCell _ _ _ _ (by simpa using hne.symm), Below.heap_setCell _ _ _ _ (by simpa using hne.symm), Below.heap_setCell _ _ _ _ (by simpa using hne.symm), Below.heap_setCell _ _ _ _ (by simpa using hne.symm), Below.heap_setCell _ _ _ _ (by simpa using hne.symm)]
end Go.Proofs.Ytclbkmhlgopcaaa
