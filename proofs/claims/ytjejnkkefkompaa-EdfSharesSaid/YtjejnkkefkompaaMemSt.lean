/-
  Words for memory: rows of uint64 cells, and the pure steps of a memory. (Names no type but uint64.)
-/
import Derived.Test.YtjejnkkefkompaaBlk
namespace Go.Proofs.Ytjejnkkefkompaa
open Go Go.RowKit

/-- The first n cells of block g, uint64's, hold X; cap is the capacity. -/
structure Row (w : World) (g n cap : Nat) (X : List Int) : Prop where
  len : X.length = n
  le : n ≤ cap
  max : cap ≤ maxLen
  blk : ∃ cur : Array Value, Blk w g 23 cur ∧ cur.size = cap ∧ cur.toList.take n = X.map (Value.int .u64)

theorem Row.cell {w : World} {g n cap : Nat} {X : List Int} (h : Row w g n cap X) {i : Nat} (hi : i < n) : w.cell? ⟨g, i, none⟩ = some (.int .u64 (X.getD i 0)) := by
  obtain ⟨cur, hb, hs, ht⟩ := h.blk
  have hl := h.len
  have hle := h.le
  rw [hb.at_]
  have e : (cur.toList.take n)[i]? = cur[i]? := by
    rw [List.getElem?_take, if_pos hi, Array.getElem?_toList]
  rw [← e, ht, List.getElem?_map, List.getD_eq_getElem?_getD, List.getElem?_eq_getElem (by omega)]
  rfl

theorem Row.free {w : World} {g n cap : Nat} {X : List Int} (h : Row w g n cap X) (i : Nat) : w.frozen? ⟨g, i, none⟩ = false := by
  obtain ⟨cur, hb, _⟩ := h.blk
  exact hb.free i

theorem Row.lt {w : World} {g n cap : Nat} {X : List Int} (h : Row w g n cap X) : g < w.heap.size := by
  obtain ⟨cur, hb, _⟩ := h.blk
  exact hb.lt

theorem Row.of_same {w w' : World} {g n cap : Nat} {X : List Int} (h : Row w g n cap X) (e : w'.heap[g]? = w.heap[g]?) : Row w' g n cap X := by
  obtain ⟨cur, hb, hr⟩ := h.blk
  exact ⟨h.len, h.le, h.max, cur, hb.of_same e, hr⟩

theorem Row.put {w : World} {g n cap : Nat} {X : List Int} (h : Row w g n cap X) {i : Nat} (x : Int) : Row (w.setCell ⟨g, i, none⟩ (.int .u64 x)) g n cap (X.set i x) := by
  obtain ⟨cur, hb, hs, ht⟩ := h.blk
  refine ⟨by simpa using h.len, h.le, h.max, _, hb.put i _, by simpa using hs, ?_⟩
  rw [Array.toList_setIfInBounds, List.take_set, ht, List.map_set]

theorem Row.own {w : World} {g n cap : Nat} {X : List Int} (h : Row w g n cap X) : w.ownsRow g 23 1 (.slice (some ⟨g, 0, none⟩) n cap) n (X.map (Value.int .u64)) := by
  obtain ⟨cur, hb, hs, ht⟩ := h.blk
  exact ⟨by simpa using h.len, .inr ⟨g, cap, cur, rfl, Nat.le_refl _, hb, h.le, h.max, by simpa using hs, by simpa using ht⟩⟩

theorem Row.of_own {w : World} {B n : Nat} {v : Value} {X : List Int} (h : w.ownsRow B 23 1 v n (X.map (Value.int .u64))) (hv : v ≠ .slice none 0 0) :
    ∃ g cap, v = .slice (some ⟨g, 0, none⟩) n cap ∧ B ≤ g ∧ Row w g n cap X := by
  obtain ⟨hl, h | ⟨g, cap, cur, rfl, hB, hb, hn, hm, hs, ht⟩⟩ := h
  · exact absurd h.1 hv
  · exact ⟨g, cap, rfl, hB, by simpa using hl, hn, hm, cur, hb, by simpa using hs, by simpa using ht⟩

/-- What a memory holds: its cells, the number of accesses, and the last one. -/
structure St where
  X : List Int
  c : Int
  k : Int
  i : Int
  o : Int
  v : Int

/-- The state behind an access that leaves y in cell j. -/
def St.acc (s : St) (k : Int) (j : Nat) (y : Int) : St := ⟨s.X.set j y, wrap64 (s.c + 1), k, j, s.X.getD j 0, y⟩

/-- Is there such a cell? -/
def St.has (s : St) (i : Int) : Prop := 0 ≤ i ∧ i < (s.X.length : Int)
instance (s : St) (i : Int) : Decidable (s.has i) := inferInstanceAs (Decidable (0 ≤ i ∧ i < (s.X.length : Int)))
/-- What a cell contains; 0 where there is none. -/
def St.old (s : St) (i : Int) : Int := if s.has i then s.X.getD i.toNat 0 else 0
/-- The state behind an access by which a cell's contents x become F x; where there is no cell, nothing happens. -/
def St.go (s : St) (k i : Int) (F : Int → Int) : St := if s.has i then s.acc k i.toNat (F (s.X.getD i.toNat 0)) else s
/-- Does the cell contain v? -/
def St.hit (s : St) (i v : Int) : Bool := decide (s.has i) && s.old i == v

theorem St.has_no {s : St} {i : Int} (h : ¬ s.has i) : i < 0 ∨ (s.X.length : Int) ≤ i := by unfold St.has at h; omega
end Go.Proofs.Ytjejnkkefkompaa
