/-
  Words for memory: rows of uint64 cells, and the pure steps of a memory. (Names no type but uint64.)
  A new memory: how many cells, its state, its row. (Names no type but uint64.)
  Words for memory: rows of uint64 cells, and what a memory and the reference's memory hold.
  Package memory: has, access.
-/
import Derived.Test.YtllllbepnnpeeaaGreatMgAA
import Derived.Laws.StructEq
import Derived.Deep.OwnRows
import Derived.WalkSpells
import Derived.WalkLawsBesides
import Derived.Lib.Hide
import Derived.Shelf.Abstract
import Derived.Outline
namespace Go.Proofs.YtllllbepnnpeeaaGreat
open Go Go.RowKit

/-- The first n cells of block g, uint64's, hold X; cap is the capacity. -/
structure Row (w : World) (g n cap : Nat) (X : List Int) : Prop where
  len : X.length = n
  le : n ≤ cap
  max : cap ≤ maxLen
  blk : ∃ cur : Array Value, Blk w g 53 cur ∧ cur.size = cap ∧ cur.toList.take n = X.map (Value.int .u64)

theorem Row.cell {w : World} {g n cap : Nat} {X : List Int} (h : Row w g n cap X) {i : Nat} (hi : i < n) : w.cell? ⟨g, i, none⟩ = some (.int .u64 (X.getD i 0)) := by
  obtain ⟨cur, hb, hs, ht⟩ := h.blk
  have hl := h.len
  have hle := h.le
  rw [hb.at_]
  have e : (cur.toList.take n)[i]? = cur[i]? := by
    rw [List.getElem?_take, if_pos hi, Array.getElem?_toList]
  rw [← e, ht, List.getElem?_map, List.getD_eq_getElem?_getD, List.getElem?_eq_getElem (by omega)]
  rfl

theorem Row.free {w : World} {g n cap : Nat} {X : List Int} (h : Row w g n cap X) (i : Nat) : w.frozen? ⟨g, i, none⟩ = false := by
  obtain ⟨cur, hb, _⟩ := h.blk
  exact hb.free i

theorem Row.lt {w : World} {g n cap : Nat} {X : List Int} (h : Row w g n cap X) : g < w.heap.size := by
  obtain ⟨cur, hb, _⟩ := h.blk
  exact hb.lt

theorem Row.of_same {w w' : World} {g n cap : Nat} {X : List Int} (h : Row w g n cap X) (e : w'.heap[g]? = w.heap[g]?) : Row w' g n cap X := by
  obtain ⟨cur, hb, hr⟩ := h.blk
  exact ⟨h.len, h.le, h.max, cur, hb.of_same e, hr⟩

theorem Row.put {w : World} {g n cap : Nat} {X : List Int} (h : Row w g n cap X) {i : Nat} (x : Int) : Row (w.setCell ⟨g, i, none⟩ (.int .u64 x)) g n cap (X.set i x) := by
  obtain ⟨cur, hb, hs, ht⟩ := h.blk
  refine ⟨by simpa using h.len, h.le, h.max, _, hb.put i _, by simpa using hs, ?_⟩
  rw [Array.toList_setIfInBounds, List.take_set, ht, List.map_set]

theorem Row.own {w : World} {g n cap : Nat} {X : List Int} (h : Row w g n cap X) : w.ownsRow g 53 1 (.slice (some ⟨g, 0, none⟩) n cap) n (X.map (Value.int .u64)) := by
  obtain ⟨cur, hb, hs, ht⟩ := h.blk
  exact ⟨by simpa using h.len, .inr ⟨g, cap, cur, rfl, Nat.le_refl _, hb, h.le, h.max, by simpa using hs, by simpa using ht⟩⟩

theorem Row.of_own {w : World} {B n : Nat} {v : Value} {X : List Int} (h : w.ownsRow B 53 1 v n (X.map (Value.int .u64))) (hv : v ≠ .slice none 0 0) :
    ∃ g cap, v = .slice (some ⟨g, 0, none⟩) n cap ∧ B ≤ g ∧ Row w g n cap X := by
  obtain ⟨hl, h | ⟨g, cap, cur, rfl, hB, hb, hn, hm, hs, ht⟩⟩ := h
  · exact absurd h.1 hv
  · exact ⟨g, cap, rfl, hB, by simpa using hl, hn, hm, cur, hb, by simpa using hs, by simpa using ht⟩

/-- What a memory holds: its cells, the number of accesses, and the last one. -/
structure St where
  X : List Int
  c : Int
  k : Int
  i : Int
  o : Int
  v : Int

/-- The state behind an access that leaves y in cell j. -/
def St.acc (s : St) (k : Int) (j : Nat) (y : Int) : St := ⟨s.X.set j y, wrap64 (s.c + 1), k, j, s.X.getD j 0, y⟩

/-- Is there such a cell? -/
def St.has (s : St) (i : Int) : Prop := 0 ≤ i ∧ i < (s.X.length : Int)
instance (s : St) (i : Int) : Decidable (s.has i) := inferInstanceAs (Decidable (0 ≤ i ∧ i < (s.X.length : Int)))
/-- What a cell contains; 0 where there is none. -/
def St.old (s : St) (i : Int) : Int := if s.has i then s.X.getD i.toNat 0 else 0
/-- The state behind an access by which a cell's contents x become F x; where there is no cell, nothing happens. -/
def St.go (s : St) (k i : Int) (F : Int → Int) : St := if s.has i then s.acc k i.toNat (F (s.X.getD i.toNat 0)) else s
/-- Does the cell contain v? -/
def St.hit (s : St) (i v : Int) : Bool := decide (s.has i) && s.old i == v

theorem St.has_no {s : St} {i : Int} (h : ¬ s.has i) : i < 0 ∨ (s.X.length : Int) ≤ i := by unfold St.has at h; omega
end Go.Proofs.YtllllbepnnpeeaaGreat

namespace Go.Proofs.YtllllbepnnpeeaaGreat
open Go Go.RowKit

/-- How many cells New makes. -/
def sizeS (c : Int) : Nat := if c ≤ 0 then 0 else if c ≤ 131072 then c.toNat else 131072
/-- A new memory of n cells. -/
def St.new (n : Nat) : St := ⟨List.replicate n 0, 0, 0, 0, 0, 0⟩

theorem made_row (w : World) (n : Nat) (hn : n ≤ 131072) : Row (w.alloc (.cells (madeCells #[.int .u64 0] n) 53)) w.heap.size n n (List.replicate n 0) := by
  refine ⟨by simp, Nat.le_refl _, by unfold maxLen; omega, _, Blk.made _ _ _, by simp [madeCells], ?_⟩
  rw [List.take_of_length_le (by simp [madeCells])]
  simp [madeCells]
  apply List.ext_getElem
  · simp
  · intro i h1 h2
    simp [Nat.mod_one]

theorem info_u64 : (Tryz.prog.info? 53).map (fun i => (i.zero, i.size, i.bytes)) = some (some (.int .u64 0), 1, 8) := by kernel_rfl
end Go.Proofs.YtllllbepnnpeeaaGreat

namespace Go.Proofs.YtllllbepnnpeeaaGreat
open Go Go.RowKit

/-- Block p is a memory (of the program) with its cells in block g, in state s. -/
structure Mem (w : World) (p g cap : Nat) (s : St) : Prop where
  blk : Blk w p 163 #[.slice (some ⟨g, 0, none⟩) s.X.length cap, .int .i64 s.c, .int .i64 s.k, .int .i64 s.i, .int .u64 s.o, .int .u64 s.v]
  row : Row w g s.X.length cap s.X
  small : s.X.length ≤ 131072

theorem Mem.ne {w : World} {p g cap : Nat} {s : St} (h : Mem w p g cap s) : p ≠ g := by
  obtain ⟨cur, hb, _⟩ := h.row.blk
  exact h.blk.apart hb (by decide)
theorem Mem.of_same {w w' : World} {p g cap : Nat} {s : St} (h : Mem w p g cap s) (e : w'.heap[p]? = w.heap[p]?) (e' : w'.heap[g]? = w.heap[g]?) : Mem w' p g cap s := ⟨h.blk.of_same e, h.row.of_same e', h.small⟩
theorem Mem.fr {S : List Nat} {w w' : World} {p g cap : Nat} {s : St} (h : Mem w p g cap s) (f : Fr S w w') (hp : p ∉ S) (hg : g ∉ S) : Mem w' p g cap s := h.of_same (f.block p h.blk.lt hp) (f.block g h.row.lt hg)
theorem Mem.alloc {w : World} {p g cap : Nat} {s : St} (h : Mem w p g cap s) (o : Obj) : Mem (w.alloc o) p g cap s := h.of_same (Below.heap_alloc w o p h.blk.lt) (Below.heap_alloc w o g h.row.lt)
theorem Mem.drewN {w : World} {p g cap : Nat} {s : St} (h : Mem w p g cap s) (n : Nat) : Mem (w.drewN n) p g cap s := h.of_same rfl rfl
/-- The walk's end, for an access: the cell, the count and the last access have been written. -/
theorem Mem.acc {w : World} {p g cap : Nat} {s : St} (h : Mem w p g cap s) (k : Int) {j : Nat} (y : Int) :
    Mem ((((((w.setCell ⟨g, j, none⟩ (.int .u64 y)).setCell ⟨p, 1, none⟩ (.int .i64 (wrap64 (s.c + 1)))).setCell ⟨p, 2, none⟩ (.int .i64 k)).setCell ⟨p, 3, none⟩ (.int .i64 j)).setCell ⟨p, 4, none⟩ (.int .u64 (s.X.getD j 0))).setCell ⟨p, 5, none⟩ (.int .u64 y)) p g cap (s.acc k j y) := by
  have hne := h.ne
  have b := (((((h.blk.of_same (Below.heap_setCell w ⟨g, j, none⟩ (.int .u64 y) p hne)).put 1 (.int .i64 (wrap64 (s.c + 1)))).put 2 (.int .i64 k)).put 3 (.int .i64 j)).put 4 (.int .u64 (s.X.getD j 0))).put 5 (.int .u64 y)
  have r := h.row.put (i := j) y
  refine ⟨?_, ?_, by simpa [St.acc] using h.small⟩
  · simpa [St.acc] using b
  · have e : (s.acc k j y).X.length = s.X.length := by simp [St.acc]
    rw [e]
    refine r.of_same ?_
    rw [Below.heap_setCell _ _ _ _ (by simpa using hne.symm), Below.heap_setCell _ _ _ _ (by simpa using hne.symm), Below.heap_setCell _ _ _ _ (by simpa using hne.symm), Below.heap_setCell _ _ _ _ (by simpa using hne.symm), Below.heap_setCell _ _ _ _ (by simpa using hne.symm)]
end Go.Proofs.YtllllbepnnpeeaaGreat

namespace Go.Proofs.YtllllbepnnpeeaaGreat
open Go Go.RowKit Go.Shelf

theorem has_yes {w : World} {p g cap : Nat} {s : St} (h : Mem w p g cap s) {j : Nat} (hj : j < s.X.length) :
    Calls Tryz.prog 70 #[.pointer (some ⟨p, 0, none⟩), .int .i64 j] w fun e w' => e = .returned (.bool true) ∧ w = w' := by
  have h0 : w.cell? ⟨p, 0, none⟩ = some (.slice (some ⟨g, 0, none⟩) s.X.length cap) := h.blk.at_ 0
  have hs := h.small
  go_enter Tryz.func70, Tryz.ntmps70
  go_wp2
  go_ret
  exact ⟨rfl, rfl⟩

theorem has_no {w : World} {p g cap : Nat} {s : St} (h : Mem w p g cap s) {i : Int} (hi : i < 0 ∨ (s.X.length : Int) ≤ i) :
    Calls Tryz.prog 70 #[.pointer (some ⟨p, 0, none⟩), .int .i64 i] w fun e w' => e = .returned (.bool false) ∧ w = w' := by
  have h0 : w.cell? ⟨p, 0, none⟩ = some (.slice (some ⟨g, 0, none⟩) s.X.length cap) := h.blk.at_ 0
  have hs := h.small
  by_cases h1 : i < 0
  · go_enter Tryz.func70, Tryz.ntmps70
    go_wp2
    go_ret
    exact ⟨rfl, rfl⟩
  · have h2 : (s.X.length : Int) ≤ i := by omega
    have h3 : decide (i < (s.X.length : Int)) = false := by simpa using h2
    go_enter Tryz.func70, Tryz.ntmps70
    go_wp2
    go_ret
    exact ⟨rfl, rfl⟩

set_option maxHeartbeats 1000000 in
theorem access_yes {w : World} {p g cap : Nat} {s : St} (h : Mem w p g cap s) {j : Nat} (hj : j < s.X.length) (k : Int) (fk : Nat) (fc : Array Value) (y : Int)
    (he : ∀ (args : Array Value) (w : World), (callFunc fk args).run Tryz.prog w = .ok (.enter fk args) w)
    (hf : Calls Tryz.prog fk (#[.int .u64 (s.X.getD j 0)] ++ fc) w fun e w' => e = .returned (.int .u64 y) ∧ w = w') :
    Calls Tryz.prog 62 #[.pointer (some ⟨p, 0, none⟩), .int .i64 k, .int .i64 j, .func (.func fk) #[] fc] w fun e w' => e = .returned (.tuple #[.int .u64 (s.X.getD j 0), .bool true]) ∧
      Mem w' p g cap (s.acc k j y) ∧ Fr [p, g] w w' := by
  have h0 : w.cell? ⟨p, 0, none⟩ = some (.slice (some ⟨g, 0, none⟩) s.X.length cap) := h.blk.at_ 0
  have h1 : w.cell? ⟨p, 1, none⟩ = some (.int .i64 s.c) := h.blk.at_ 1
  have h2 : w.cell? ⟨p, 2, none⟩ = some (.int .i64 s.k) := h.blk.at_ 2
  have h3 : w.cell? ⟨p, 3, none⟩ = some (.int .i64 s.i) := h.blk.at_ 3
  have h4 : w.cell? ⟨p, 4, none⟩ = some (.int .u64 s.o) := h.blk.at_ 4
  have h5 : w.cell? ⟨p, 5, none⟩ = some (.int .u64 s.v) := h.blk.at_ 5
  have hc : w.cell? ⟨g, j, none⟩ = some (.int .u64 (s.X.getD j 0)) := h.row.cell hj
  have f0 := h.blk.free 0
  have f1 := h.blk.free 1
  have f2 := h.blk.free 2
  have f3 := h.blk.free 3
  have f4 := h.blk.free 4
  have f5 := h.blk.free 5
  have fg := h.row.free j
  have hne := h.ne
  have hne' := hne.symm
  have hs := h.small
  generalize hx : s.X.getD j 0 = x at *
  have HX := Lib.hid hx
  clear hx
  go_enter Tryz.func62, Tryz.ntmps62
  go_wp2_with fail
  refine (has_yes h hj).mono ?_
  rintro e w' ⟨rfl, rfl⟩
  go_wp2_with fail
  refine hf.mono ?_
  rintro e w' ⟨rfl, rfl⟩
  clear he hf
  go_wp2
  go_ret2
  have e := HX.out
  subst e
  exact ⟨rfl, h.acc k y, ((((((Fr.refl _ _).setCell (by simp) _).setCell (by simp) _).setCell (by simp) _).setCell (by simp) _).setCell (by simp) _).setCell (by simp) _⟩

theorem access_no {w : World} {p g cap : Nat} {s : St} (h : Mem w p g cap s) {i : Int} (hi : i < 0 ∨ (s.X.length : Int) ≤ i) (k : Int) (f : Value) :
    Calls Tryz.prog 62 #[.pointer (some ⟨p, 0, none⟩), .int .i64 k, .int .i64 i, f] w fun e w' => e = .returned (.tuple #[.int .u64 0, .bool false]) ∧ w = w' := by
  go_enter Tryz.func62, Tryz.ntmps62
  go_wp2_with fail
  refine (has_no h hi).mono ?_
  rintro e w' ⟨rfl, rfl⟩
  go_wp2
  go_ret2
  exact ⟨rfl, rfl⟩

/-- access, whatever the cell. -/
theorem access_any {w : World} {p g cap : Nat} {s : St} (h : Mem w p g cap s) (k i : Int) (fk : Nat) (fc : Array Value) (F : Int → Int)
    (he : ∀ (args : Array Value) (w : World), (callFunc fk args).run Tryz.prog w = .ok (.enter fk args) w)
    (hf : ∀ x, Calls Tryz.prog fk (#[.int .u64 x] ++ fc) w fun e w' => e = .returned (.int .u64 (F x)) ∧ w = w') :
    Calls Tryz.prog 62 #[.pointer (some ⟨p, 0, none⟩), .int .i64 k, .int .i64 i, .func (.func fk) #[] fc] w fun e w' => e = .returned (.tuple #[.int .u64 (s.old i), .bool (decide (s.has i))]) ∧
      Mem w' p g cap (s.go k i F) ∧ Fr [p, g] w w' := by
  by_cases hi : s.has i
  · obtain ⟨j, rfl⟩ : ∃ j : Nat, i = (j : Int) := ⟨i.toNat, by have := hi.1; omega⟩
    have hj : j < s.X.length := by have := hi.2; omega
    refine (access_yes h hj k fk fc _ he (hf _)).mono ?_
    rintro e w' ⟨rfl, hm, hfr⟩
    simp only [St.old, St.go, if_pos hi, Int.toNat_natCast, decide_eq_true hi]
    exact ⟨trivial, hm, hfr⟩
  · refine (access_no h (St.has_no hi) k _).mono ?_
    rintro e w' ⟨rfl, rfl⟩
    simp only [St.old, St.go, if_neg hi, decide_eq_false hi]
    exact ⟨trivial, h, Fr.refl _ _⟩
end Go.Proofs.YtllllbepnnpeeaaGreat
