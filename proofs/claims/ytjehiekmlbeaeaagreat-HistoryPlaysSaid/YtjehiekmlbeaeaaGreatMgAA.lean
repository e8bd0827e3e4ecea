/-
  Blocks known whole, and what changed from one world to the next.
  Words for memory: rows of uint64 cells, and the pure steps of a memory. (Names no type but uint64.)
  A new memory: how many cells, its state, its row. (Names no type but uint64.)
  Words for memory: rows of uint64 cells, and what a memory and the reference's memory hold.
-/
import Derived.Test.YtjehiekmlbeaeaaGreatRows
import Derived.WalkKit
import Derived.Below
import Derived.Deep.Draws
import Derived.Laws.Rows
import Derived.Laws.OwnMore
import Derived.ChangeSame
import Derived.Laws.StructEq
import Derived.Deep.OwnRows
namespace Go.Proofs.YtjehiekmlbeaeaaGreat
open Go Go.RowKit

/-- Block g is just the cells cs of element type t, none of them frozen. -/
def Blk (w : World) (g : Nat) (t : TypeId) (cs : Array Value) : Prop := w.heap[g]? = some (.cells cs t (0, 0))

theorem Blk.lt {w : World} {g : Nat} {t : TypeId} {cs : Array Value} (h : Blk w g t cs) : g < w.heap.size := by
  unfold Blk at h
  by_cases hg : g < w.heap.size
  · exact hg
  · rw [Array.getElem?_eq_none (by omega)] at h
    cases h

theorem Blk.at_ {w : World} {g : Nat} {t : TypeId} {cs : Array Value} (h : Blk w g t cs) (i : Nat) : w.cell? ⟨g, i, none⟩ = cs[i]? := cell_of_row w g i cs t (0, 0) h

theorem Blk.free {w : World} {g : Nat} {t : TypeId} {cs : Array Value} (h : Blk w g t cs) (i : Nat) : w.frozen? ⟨g, i, none⟩ = false := by
  unfold Blk at h
  simp [World.frozen?, h]

theorem Blk.apart {w : World} {g g' : Nat} {t t' : TypeId} {cs cs' : Array Value} (h : Blk w g t cs) (h' : Blk w g' t' cs') (hne : t ≠ t') : g ≠ g' := by
  intro e
  subst e
  unfold Blk at h h'
  rw [h] at h'
  simp only [Option.some.injEq, Obj.cells.injEq] at h'
  exact hne h'.2.1

theorem Blk.put {w : World} {g : Nat} {t : TypeId} {cs : Array Value} (h : Blk w g t cs) (i : Nat) (u : Value) : Blk (w.setCell ⟨g, i, none⟩ u) g t (cs.setIfInBounds i u) := by
  unfold Blk at h ⊢
  simp [World.setCell, Array.getElem?_modify, h]

theorem Blk.made (w : World) (t : TypeId) (cs : Array Value) : Blk (w.alloc (.cells cs t)) w.heap.size t cs := heap_alloc_new w _

theorem Blk.of_same {w w' : World} {g : Nat} {t : TypeId} {cs : Array Value} (h : Blk w g t cs) (e : w'.heap[g]? = w.heap[g]?) : Blk w' g t cs := e.trans h

/-- What changed from w to w': the blocks of S and what is new; the streams are as they were. -/
structure Fr (S : List Nat) (w w' : World) : Prop where
  os : w'.os = w.os
  tape : w'.tape = w.tape
  output : w'.output = w.output
  size : w.heap.size ≤ w'.heap.size
  block : ∀ k, k < w.heap.size → k ∉ S → w'.heap[k]? = w.heap[k]?

theorem Fr.refl (S : List Nat) (w : World) : Fr S w w := ⟨rfl, rfl, rfl, Nat.le_refl _, fun _ _ _ => rfl⟩
theorem Fr.trans {S : List Nat} {a b c : World} (h : Fr S a b) (k : Fr S b c) : Fr S a c :=
  ⟨k.os.trans h.os, k.tape.trans h.tape, k.output.trans h.output, Nat.le_trans h.size k.size, fun i hi hn => (k.block i (Nat.lt_of_lt_of_le hi h.size) hn).trans (h.block i hi hn)⟩
theorem Fr.mono {S T : List Nat} {w w' : World} (h : Fr S w w') (hs : ∀ k, k ∈ S → k ∈ T) : Fr T w w' := ⟨h.os, h.tape, h.output, h.size, fun k hk hn => h.block k hk fun hm => hn (hs k hm)⟩
theorem Fr.alloc {S : List Nat} {a w : World} (h : Fr S a w) (o : Obj) : Fr S a (w.alloc o) :=
  h.trans ⟨rfl, rfl, rfl, by simp, fun k hk _ => Below.heap_alloc w o k hk⟩
theorem Fr.setCell {S : List Nat} {a w : World} (h : Fr S a w) {p : Addr} (hp : p.block ∈ S ∨ a.heap.size ≤ p.block) (u : Value) : Fr S a (w.setCell p u) :=
  ⟨h.os, h.tape, h.output, by have := h.size; simpa [World.setCell] using this, fun k hk hn => (Below.heap_setCell w p u k (by
    intro e
    subst e
    rcases hp with hp | hp
    · exact hn hp
    · omega)).trans (h.block k hk hn)⟩
theorem Fr.drew {S : List Nat} {a w : World} (h : Fr S a w) : Fr S a w.drew := ⟨h.os, h.tape, h.output, h.size, h.block⟩
theorem Fr.drewN {S : List Nat} {a w : World} (h : Fr S a w) (n : Nat) : Fr S a (w.drewN n) := ⟨h.os, h.tape, h.output, h.size, h.block⟩
theorem Fr.below {S : List Nat} {w w' : World} {B : Nat} (h : Fr S w w') (hB : B ≤ w.heap.size) (hs : ∀ k, k ∈ S → B ≤ k) : Below B w w' :=
  ⟨h.os, h.tape, h.output, h.size, fun k hk => h.block k (by omega) fun hm => by have := hs k hm; omega⟩
/-- The blocks of S are new: nothing that was there has changed. -/
theorem Fr.old {S : List Nat} {w w' : World} (h : Below w.heap.size w w') : Fr S w w' := ⟨h.os, h.tape, h.output, h.size, fun k hk _ => h.block k hk⟩
/-- What is new at the beginning may change later. -/
theorem Fr.drop {S T : List Nat} {a b c : World} (h : Fr S a b) (k : Fr T b c) (hs : ∀ x, x ∈ T → x ∈ S ∨ a.heap.size ≤ x) : Fr S a c :=
  ⟨k.os.trans h.os, k.tape.trans h.tape, k.output.trans h.output, Nat.le_trans h.size k.size, fun i hi hn => (k.block i (Nat.lt_of_lt_of_le hi h.size) (fun hm => by
    rcases hs i hm with h1 | h1
    · exact hn h1
    · omega)).trans (h.block i hi hn)⟩
end Go.Proofs.YtjehiekmlbeaeaaGreat

namespace Go.Proofs.YtjehiekmlbeaeaaGreat
open Go Go.RowKit

/-- The first n cells of block g, uint64's, hold X; cap is the capacity. -/
structure Row (w : World) (g n cap : Nat) (X : List Int) : Prop where
  len : X.length = n
  le : n ≤ cap
  max : cap ≤ maxLen
  blk : ∃ cur : Array Value, Blk w g 50 cur ∧ cur.size = cap ∧ cur.toList.take n = X.map (Value.int .u64)

theorem Row.cell {w : World} {g n cap : Nat} {X : List Int} (h : Row w g n cap X) {i : Nat} (hi : i < n) : w.cell? ⟨g, i, none⟩ = some (.int .u64 (X.getD i 0)) := by
  obtain ⟨cur, hb, hs, ht⟩ := h.blk
  have hl := h.len
  have hle := h.le
  rw [hb.at_]
  have e : (cur.toList.take n)[i]? = cur[i]? := by
    rw [List.getElem?_take, if_pos hi, Array.getElem?_toList]
  rw [← e, ht, List.getElem?_map, List.getD_eq_getElem?_getD, List.getElem?_eq_getElem (by omega)]
  rfl

theorem Row.free {w : World} {g n cap : Nat} {X : List Int} (h : Row w g n cap X) (i : Nat) : w.frozen? ⟨g, i, none⟩ = false := by
  obtain ⟨cur, hb, _⟩ := h.blk
  exact hb.free i

theorem Row.lt {w : World} {g n cap : Nat} {X : List Int} (h : Row w g n cap X) : g < w.heap.size := by
  obtain ⟨cur, hb, _⟩ := h.blk
  exact hb.lt

theorem Row.of_same {w w' : World} {g n cap : Nat} {X : List Int} (h : Row w g n cap X) (e : w'.heap[g]? = w.heap[g]?) : Row w' g n cap X := by
  obtain ⟨cur, hb, hr⟩ := h.blk
  exact ⟨h.len, h.le, h.max, cur, hb.of_same e, hr⟩

theorem Row.put {w : World} {g n cap : Nat} {X : List Int} (h : Row w g n cap X) {i : Nat} (x : Int) : Row (w.setCell ⟨g, i, none⟩ (.int .u64 x)) g n cap (X.set i x) := by
  obtain ⟨cur, hb, hs, ht⟩ := h.blk
  refine ⟨by simpa using h.len, h.le, h.max, _, hb.put i _, by simpa using hs, ?_⟩
  rw [Array.toList_setIfInBounds, List.take_set, ht, List.map_set]

theorem Row.own {w : World} {g n cap : Nat} {X : List Int} (h : Row w g n cap X) : w.ownsRow g 50 1 (.slice (some ⟨g, 0, none⟩) n cap) n (X.map (Value.int .u64)) := by
  obtain ⟨cur, hb, hs, ht⟩ := h.blk
  exact ⟨by simpa using h.len, .inr ⟨g, cap, cur, rfl, Nat.le_refl _, hb, h.le, h.max, by simpa using hs, by simpa using ht⟩⟩

theorem Row.of_own {w : World} {B n : Nat} {v : Value} {X : List Int} (h : w.ownsRow B 50 1 v n (X.map (Value.int .u64))) (hv : v ≠ .slice none 0 0) :
    ∃ g cap, v = .slice (some ⟨g, 0, none⟩) n cap ∧ B ≤ g ∧ Row w g n cap X := by
  obtain ⟨hl, h | ⟨g, cap, cur, rfl, hB, hb, hn, hm, hs, ht⟩⟩ := h
  · exact absurd h.1 hv
  · exact ⟨g, cap, rfl, hB, by simpa using hl, hn, hm, cur, hb, by simpa using hs, by simpa using ht⟩

/-- What a memory holds: its cells, the number of accesses, and the last one. -/
structure St where
  X : List Int
  c : Int
  k : Int
  i : Int
  o : Int
  v : Int

/-- The state behind an access that leaves y in cell j. -/
def St.acc (s : St) (k : Int) (j : Nat) (y : Int) : St := ⟨s.X.set j y, wrap64 (s.c + 1), k, j, s.X.getD j 0, y⟩

/-- Is there such a cell? -/
def St.has (s : St) (i : Int) : Prop := 0 ≤ i ∧ i < (s.X.length : Int)
instance (s : St) (i : Int) : Decidable (s.has i) := inferInstanceAs (Decidable (0 ≤ i ∧ i < (s.X.length : Int)))
/-- What a cell contains; 0 where there is none. -/
def St.old (s : St) (i : Int) : Int := if s.has i then s.X.getD i.toNat 0 else 0
/-- The state behind an access by which a cell's contents x become F x; where there is no cell, nothing happens. -/
def St.go (s : St) (k i : Int) (F : Int → Int) : St := if s.has i then s.acc k i.toNat (F (s.X.getD i.toNat 0)) else s
/-- Does the cell contain v? -/
def St.hit (s : St) (i v : Int) : Bool := decide (s.has i) && s.old i == v

theorem St.has_no {s : St} {i : Int} (h : ¬ s.has i) : i < 0 ∨ (s.X.length : Int) ≤ i := by unfold St.has at h; omega
end Go.Proofs.YtjehiekmlbeaeaaGreat

namespace Go.Proofs.YtjehiekmlbeaeaaGreat
open Go Go.RowKit

/-- How many cells New makes. -/
def sizeS (c : Int) : Nat := if c ≤ 0 then 0 else if c ≤ 131072 then c.toNat else 131072
/-- A new memory of n cells. -/
def St.new (n : Nat) : St := ⟨List.replicate n 0, 0, 0, 0, 0, 0⟩

theorem made_row (w : World) (n : Nat) (hn : n ≤ 131072) : Row (w.alloc (.cells (madeCells #[.int .u64 0] n) 50)) w.heap.size n n (List.replicate n 0) := by
  refine ⟨by simp, Nat.le_refl _, by unfold maxLen; omega, _, Blk.made _ _ _, by simp [madeCells], ?_⟩
  rw [List.take_of_length_le (by simp [madeCells])]
  simp [madeCells]
  apply List.ext_getElem
  · simp
  · intro i h1 h2
    simp [Nat.mod_one]

theorem info_u64 : (Tryz.prog.info? 50).map (fun i => (i.zero, i.size, i.bytes)) = some (some (.int .u64 0), 1, 8) := by kernel_rfl
end Go.Proofs.YtjehiekmlbeaeaaGreat

namespace Go.Proofs.YtjehiekmlbeaeaaGreat
open Go Go.RowKit

/-- Block p is a memory (of the program) with its cells in block g, in state s. -/
structure Mem (w : World) (p g cap : Nat) (s : St) : Prop where
  blk : Blk w p 133 #[.slice (some ⟨g, 0, none⟩) s.X.length cap, .int .i64 s.c, .int .i64 s.k, .int .i64 s.i, .int .u64 s.o, .int .u64 s.v]
  row : Row w g s.X.length cap s.X
  small : s.X.length ≤ 131072

theorem Mem.ne {w : World} {p g cap : Nat} {s : St} (h : Mem w p g cap s) : p ≠ g := by
  obtain ⟨cur, hb, _⟩ := h.row.blk
  exact h.blk.apart hb (by decide)
theorem Mem.of_same {w w' : World} {p g cap : Nat} {s : St} (h : Mem w p g cap s) (e : w'.heap[p]? = w.heap[p]?) (e' : w'.heap[g]? = w.heap[g]?) : Mem w' p g cap s := ⟨h.blk.of_same e, h.row.of_same e', h.small⟩
theorem Mem.fr {S : List Nat} {w w' : World} {p g cap : Nat} {s : St} (h : Mem w p g cap s) (f : Fr S w w') (hp : p ∉ S) (hg : g ∉ S) : Mem w' p g cap s := h.of_same (f.block p h.blk.lt hp) (f.block g h.row.lt hg)
theorem Mem.alloc {w : World} {p g cap : Nat} {s : St} (h : Mem w p g cap s) (o : Obj) : Mem (w.alloc o) p g cap s := h.of_same (Below.heap_alloc w o p h.blk.lt) (Below.heap_alloc w o g h.row.lt)
theorem Mem.drewN {w : World} {p g cap : Nat} {s : St} (h : Mem w p g cap s) (n : Nat) : Mem (w.drewN n) p g cap s := h.of_same rfl rfl
/-- The walk's end, for an access: the cell, the count and the last access have been written. -/
theorem Mem.acc {w : World} {p g cap : Nat} {s : St} (h : Mem w p g cap s) (k : Int) {j : Nat} (y : Int) :
    Mem ((((((w.setCell ⟨g, j, none⟩ (.int .u64 y)).setCell ⟨p, 1, none⟩ (.int .i64 (wrap64 (s.c + 1)))).setCell ⟨p, 2, none⟩ (.int .i64 k)).setCell ⟨p, 3, none⟩ (.int .i64 j)).setCell ⟨p, 4, none⟩ (.int .u64 (s.X.getD j 0))).setCell ⟨p, 5, none⟩ (.int .u64 y)) p g cap (s.acc k j y) := by
  have hne := h.ne
  have b := (((((h.blk.of_same (Below.heap_setCell w ⟨g, j, none⟩ (.int .u64 y) p hne)).put 1 (.int .i64 (wrap64 (s.c + 1)))).put 2 (.int .i64 k)).put 3 (.int .i64 j)).put 4 (.int .u64 (s.X.getD j 0))).put 5 (.int .u64 y)
  have r := h.row.put (i := j) y
  refine ⟨?_, ?_, by simpa [St.acc] using h.small⟩
  · simpa [St.acc] using b
  · have e : (s.acc k j y).X.length = s.X.length := by simp [St.acc]
    rw [e]
    refine r.of_same ?_
    rw [Below.heap_setCell _ _ _ _ (by simpa using hne.symm), Below.heap_setCell _ _ _ _ (by simpa using hne.symm), Below.heap_setCell _ _ _ _ (by simpa using hne.symm), Below.heap_setCell _ _ _ _ (by simpa using hne.symm), Below.heap_setCell _ _ _ _ (by simpa using hne.symm)]
end Go.Proofs.YtjehiekmlbeaeaaGreat
