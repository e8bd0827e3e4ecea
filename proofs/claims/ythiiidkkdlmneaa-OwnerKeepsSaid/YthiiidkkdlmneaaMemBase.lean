/-
  Words for memory: rows of uint64 cells, and what a memory and the reference's memory hold.
-/
import Derived.Test.YthiiidkkdlmneaaMgAA
namespace Go.Proofs.Ythiiidkkdlmneaa
open Go Go.RowKit

/-- Block p is a memory (of the program) with its cells in block g, in state s. -/
structure Mem (w : World) (p g cap : Nat) (s : St) : Prop where
  blk : Blk w p 102 #[.slice (some ⟨g, 0, none⟩) s.X.length cap, .int .i64 s.c, .int .i64 s.k, .int .i64 s.i, .int .u64 s.o, .int .u64 s.v]
  row : Row w g s.X.length cap s.X
  small : s.X.length ≤ 131072

/-- Block p is a memory of the reference with its cells in block g, in state s. -/
structure Ref (w : World) (p g cap : Nat) (s : St) : Prop where
  blk : Blk w p 72 #[.slice (some ⟨g, 0, none⟩) s.X.length cap, .int .i64 s.k, .int .i64 s.i, .int .u64 s.o, .int .u64 s.v, .int .i64 s.c]
  row : Row w g s.X.length cap s.X
  small : s.X.length ≤ 131072

theorem Mem.ne {w : World} {p g cap : Nat} {s : St} (h : Mem w p g cap s) : p ≠ g := by
  obtain ⟨cur, hb, _⟩ := h.row.blk
  exact h.blk.apart hb (by decide)
theorem Ref.ne {w : World} {p g cap : Nat} {s : St} (h : Ref w p g cap s) : p ≠ g := by
  obtain ⟨cur, hb, _⟩ := h.row.blk
  exact h.blk.apart hb (by decide)
theorem Mem.of_same {w w' : World} {p g cap : Nat} {s : St} (h : Mem w p g cap s) (e : w'.heap[p]? = w.heap[p]?) (e' : w'.heap[g]? = w.heap[g]?) : Mem w' p g cap s := ⟨h.blk.of_same e, h.row.of_same e', h.small⟩
theorem Ref.of_same {w w' : World} {p g cap : Nat} {s : St} (h : Ref w p g cap s) (e : w'.heap[p]? = w.heap[p]?) (e' : w'.heap[g]? = w.heap[g]?) : Ref w' p g cap s := ⟨h.blk.of_same e, h.row.of_same e', h.small⟩
theorem Mem.fr {S : List Nat} {w w' : World} {p g cap : Nat} {s : St} (h : Mem w p g cap s) (f : Fr S w w') (hp : p ∉ S) (hg : g ∉ S) : Mem w' p g cap s := h.of_same (f.block p h.blk.lt hp) (f.block g h.row.lt hg)
theorem Ref.fr {S : List Nat} {w w' : World} {p g cap : Nat} {s : St} (h : Ref w p g cap s) (f : Fr S w w') (hp : p ∉ S) (hg : g ∉ S) : Ref w' p g cap s := h.of_same (f.block p h.blk.lt hp) (f.block g h.row.lt hg)
theorem Mem.alloc {w : World} {p g cap : Nat} {s : St} (h : Mem w p g cap s) (o : Obj) : Mem (w.alloc o) p g cap s := h.of_same (Below.heap_alloc w o p h.blk.lt) (Below.heap_alloc w o g h.row.lt)
theorem Ref.alloc {w : World} {p g cap : Nat} {s : St} (h : Ref w p g cap s) (o : Obj) : Ref (w.alloc o) p g cap s := h.of_same (Below.heap_alloc w o p h.blk.lt) (Below.heap_alloc w o g h.row.lt)
theorem Mem.drewN {w : World} {p g cap : Nat} {s : St} (h : Mem w p g cap s) (n : Nat) : Mem (w.drewN n) p g cap s := h.of_same rfl rfl
theorem Ref.drewN {w : World} {p g cap : Nat} {s : St} (h : Ref w p g cap s) (n : Nat) : Ref (w.drewN n) p g cap s := h.of_same rfl rfl

/-- The walk's end, for an access: the cell, the count and the last access have been written. -/
theorem Mem.acc {w : World} {p g cap : Nat} {s : St} (h : Mem w p g cap s) (k : Int) {j : Nat} (y : Int) :
    Mem ((((((w.setCell ⟨g, j, none⟩ (.int .u64 y)).setCell ⟨p, 1, none⟩ (.int .i64 (wrap64 (s.c + 1)))).setCell ⟨p, 2, none⟩ (.int .i64 k)).setCell ⟨p, 3, none⟩ (.int .i64 j)).setCell ⟨p, 4, none⟩ (.int .u64 (s.X.getD j 0))).setCell ⟨p, 5, none⟩ (.int .u64 y)) p g cap (s.acc k j y) := by
  have hne := h.ne
  have b := (((((h.blk.of_same (Below.heap_setCell w ⟨g, j, none⟩ (.int .u64 y) p hne)).put 1 (.int .i64 (wrap64 (s.c + 1)))).put 2 (.int .i64 k)).put 3 (.int .i64 j)).put 4 (.int .u64 (s.X.getD j 0))).put 5 (.int .u64 y)
  have r := h.row.put (i := j) y
  refine ⟨?_, ?_, by simpa [St.acc] using h.small⟩
  · simpa [St.acc] using b
  · have e : (s.acc k j y).X.length = s.X.length := by simp [St.acc]
    rw [e]
    refine r.of_same ?_
    rw [Below.heap_setCell _ _ _ _ (by simpa using hne.symm), Below.heap_setCell _ _ _ _ (by simpa using hne.symm), Below.heap_setCell _ _ _ _ (by simpa using hne.symm), Below.heap_setCell _ _ _ _ (by simpa using hne.symm), Below.heap_setCell _ _ _ _ (by simpa using hne.symm)]
theorem Ref.acc {w : World} {p g cap : Nat} {s : St} (h : Ref w p g cap s) (k : Int) {j : Nat} (y : Int) :
    Ref ((((((w.setCell ⟨g, j, none⟩ (.int .u64 y)).setCell ⟨p, 1, none⟩ (.int .i64 k)).setCell ⟨p, 2, none⟩ (.int .i64 j)).setCell ⟨p, 3, none⟩ (.int .u64 (s.X.getD j 0))).setCell ⟨p, 4, none⟩ (.int .u64 y)).setCell ⟨p, 5, none⟩ (.int .i64 (wrap64 (s.c + 1)))) p g cap (s.acc k j y) := by
  have hne := h.ne
  have b := (((((h.blk.of_same (Below.heap_setCell w ⟨g, j, none⟩ (.int .u64 y) p hne)).put 1 (.int .i64 k)).put 2 (.int .i64 j)).put 3 (.int .u64 (s.X.getD j 0))).put 4 (.int .u64 y)).put 5 (.int .i64 (wrap64 (s.c + 1)))
  have r := h.row.put (i := j) y
  refine ⟨?_, ?_, by simpa [St.acc] using h.small⟩
  · simpa [St.acc] using b
  · have e : (s.acc k j y).X.length = s.X.length := by simp [St.acc]
    rw [e]
    refine r.of_same ?_
    rw [Below.heap_setCell _ _ _ _ (by simpa using hne.symm), Below.heap_setCell _ _ _ _ (by simpa using hne.symm), Below.heap_setCell _ _ _ _ (by simpa using hne.symm), Below.heap_setCell _ _ _ _ (by simpa using hne.symm), Below.heap_setCell _ _ _ _ (by simpa using hne.symm)]
end Go.Proofs.Ythiiidkkdlmneaa
