/-
  Words for memory: rows of uint64 cells, and the pure steps of a memory. (Names no type but uint64.)
  What an access changes of a memory's state. No function is named.
  Frames of the reference's machines as plain data, results, sizes, cells of indices; the lines of push and pop. No function and no type is named.
-/
import Derived.Test.YtgipddeldddbnaaBlk
namespace Go.Proofs.Ytgipddeldddbnaa
open Go Go.RowKit

/-- The first n cells of block g, uint64's, hold X; cap is the capacity. -/
structure Row (w : World) (g n cap : Nat) (X : List Int) : Prop where
  len : X.length = n
  le : n ≤ cap
  max : cap ≤ maxLen
  blk : ∃ cur : Array Value, Blk w g 96 cur ∧ cur.size = cap ∧ cur.toList.take n = X.map (Value.int .u64)

theorem Row.cell {w : World} {g n cap : Nat} {X : List Int} (h : Row w g n cap X) {i : Nat} (hi : i < n) : w.cell? ⟨g, i, none⟩ = some (.int .u64 (X.getD i 0)) := by
  obtain ⟨cur, hb, hs, ht⟩ := h.blk
  have hl := h.len
  have hle := h.le
  rw [hb.at_]
  have e : (cur.toList.take n)[i]? = cur[i]? := by
    rw [List.getElem?_take, if_pos hi, Array.getElem?_toList]
  rw [← e, ht, List.getElem?_map, List.getD_eq_getElem?_getD, List.getElem?_eq_getElem (by omega)]
  rfl

theorem Row.free {w : World} {g n cap : Nat} {X : List Int} (h : Row w g n cap X) (i : Nat) : w.frozen? ⟨g, i, none⟩ = false := by
  obtain ⟨cur, hb, _⟩ := h.blk
  exact hb.free i

theorem Row.lt {w : World} {g n cap : Nat} {X : List Int} (h : Row w g n cap X) : g < w.heap.size := by
  obtain ⟨cur, hb, _⟩ := h.blk
  exact hb.lt

theorem Row.of_same {w w' : World} {g n cap : Nat} {X : List Int} (h : Row w g n cap X) (e : w'.heap[g]? = w.heap[g]?) : Row w' g n cap X := by
  obtain ⟨cur, hb, hr⟩ := h.blk
  exact ⟨h.len, h.le, h.max, cur, hb.of_same e, hr⟩

theorem Row.put {w : World} {g n cap : Nat} {X : List Int} (h : Row w g n cap X) {i : Nat} (x : Int) : Row (w.setCell ⟨g, i, none⟩ (.int .u64 x)) g n cap (X.set i x) := by
  obtain ⟨cur, hb, hs, ht⟩ := h.blk
  refine ⟨by simpa using h.len, h.le, h.max, _, hb.put i _, by simpa using hs, ?_⟩
  rw [Array.toList_setIfInBounds, List.take_set, ht, List.map_set]

theorem Row.own {w : World} {g n cap : Nat} {X : List Int} (h : Row w g n cap X) : w.ownsRow g 96 1 (.slice (some ⟨g, 0, none⟩) n cap) n (X.map (Value.int .u64)) := by
  obtain ⟨cur, hb, hs, ht⟩ := h.blk
  exact ⟨by simpa using h.len, .inr ⟨g, cap, cur, rfl, Nat.le_refl _, hb, h.le, h.max, by simpa using hs, by simpa using ht⟩⟩

theorem Row.of_own {w : World} {B n : Nat} {v : Value} {X : List Int} (h : w.ownsRow B 96 1 v n (X.map (Value.int .u64))) (hv : v ≠ .slice none 0 0) :
    ∃ g cap, v = .slice (some ⟨g, 0, none⟩) n cap ∧ B ≤ g ∧ Row w g n cap X := by
  obtain ⟨hl, h | ⟨g, cap, cur, rfl, hB, hb, hn, hm, hs, ht⟩⟩ := h
  · exact absurd h.1 hv
  · exact ⟨g, cap, rfl, hB, by simpa using hl, hn, hm, cur, hb, by simpa using hs, by simpa using ht⟩

/-- What a memory holds: its cells, the number of accesses, and the last one. -/
structure St where
  X : List Int
  c : Int
  k : Int
  i : Int
  o : Int
  v : Int

/-- The state behind an access that leaves y in cell j. -/
def St.acc (s : St) (k : Int) (j : Nat) (y : Int) : St := ⟨s.X.set j y, wrap64 (s.c + 1), k, j, s.X.getD j 0, y⟩

/-- Is there such a cell? -/
def St.has (s : St) (i : Int) : Prop := 0 ≤ i ∧ i < (s.X.length : Int)
instance (s : St) (i : Int) : Decidable (s.has i) := inferInstanceAs (Decidable (0 ≤ i ∧ i < (s.X.length : Int)))
/-- What a cell contains; 0 where there is none. -/
def St.old (s : St) (i : Int) : Int := if s.has i then s.X.getD i.toNat 0 else 0
/-- The state behind an access by which a cell's contents x become F x; where there is no cell, nothing happens. -/
def St.go (s : St) (k i : Int) (F : Int → Int) : St := if s.has i then s.acc k i.toNat (F (s.X.getD i.toNat 0)) else s
/-- Does the cell contain v? -/
def St.hit (s : St) (i v : Int) : Bool := decide (s.has i) && s.old i == v

theorem St.has_no {s : St} {i : Int} (h : ¬ s.has i) : i < 0 ∨ (s.X.length : Int) ≤ i := by unfold St.has at h; omega
end Go.Proofs.Ytgipddeldddbnaa

namespace Go.Proofs.Ytgipddeldddbnaa
open Go Go.RowKit

theorem go_len (s : St) (k i : Int) (F : Int → Int) : (s.go k i F).X.length = s.X.length := by
  unfold St.go
  split
  · simp [St.acc]
  · rfl
theorem go_has (s : St) (k i j : Int) (F : Int → Int) : (s.go k i F).has j ↔ s.has j := by
  unfold St.has
  rw [go_len]
theorem go_old (s : St) (k i : Int) (F : Int → Int) (h : s.has i) : (s.go k i F).old i = F (s.old i) := by
  have h' := (go_has s k i i F).2 h
  unfold St.old
  rw [if_pos h', if_pos h]
  unfold St.go
  rw [if_pos h]
  have h2 : i.toNat < s.X.length := by have := h.1; have := h.2; omega
  simp [St.acc, List.getD_eq_getElem?_getD, h2]
theorem go_other (s : St) (k i j : Int) (F : Int → Int) (h : i ≠ j) : (s.go k i F).old j = s.old j := by
  unfold St.old
  by_cases hj : s.has j
  · rw [if_pos hj, if_pos ((go_has s k i j F).2 hj)]
    unfold St.go
    split
    · rename_i hi
      have : i.toNat ≠ j.toNat := by have := hi.1; have := hj.1; omega
      simp [St.acc, List.getD_eq_getElem?_getD, this]
    · rfl
  · rw [if_neg hj, if_neg (fun h => hj ((go_has s k i j F).1 h))]
end Go.Proofs.Ytgipddeldddbnaa

namespace Go.Proofs.Ytgipddeldddbnaa
open Go Go.RowKit
set_option linter.unusedSimpArgs false

/-- A frame: its kind, its line, the deque, its numbers, its words, its list's slice. -/
structure Fra where
  kd : Int
  ln : Int
  qt : Int
  qb : Int
  qr : Int
  qc : Int
  fa : Int
  fb : Int
  fd : Int
  fi : Int
  fj : Int
  fn : Int
  ft : Int
  fu : Int
  fv : Int
  fw : Int
  fx : Int
  fl : Value
/-- A frame at line 1. -/
abbrev fra1 (kd t b r k a : Int) : Fra := ⟨kd, 1, t, b, r, k, a, 0, 0, 0, 0, 0, 0, 0, 0, 0, 0, .slice none 0 0⟩
/-- Its cells. -/
abbrev fcells (f : Fra) : List Value := [.int .i64 f.kd, .int .i64 f.ln, .int .i64 f.qt, .int .i64 f.qb, .int .i64 f.qr, .int .i64 f.qc, .int .i64 f.fa, .int .i64 f.fb, .int .i64 f.fd, .int .i64 f.fi, .int .i64 f.fj, .int .i64 f.fn, .int .i64 f.ft, .int .u64 f.fu, .int .u64 f.fv, .int .u64 f.fw, .int .u64 f.fx, f.fl]
/-- A result. -/
structure Res where
  dn : Bool
  cd : Int
  vl : Int
abbrev Res.none : Res := ⟨false, 0, 0⟩
abbrev rcells' (r : Res) : Array Value := #[.bool r.dn, .int .i64 r.cd, .int .i64 r.vl]
/-- The size of a deque, the cell of an index. -/
def sizeI (b t : Int) : Int := wrap64 (IntKind.u64.wrap (b - t))
/-- The value of a deque. -/
abbrev qv (t b r k : Int) : Value := .agg #[.int .i64 t, .int .i64 b, .int .i64 r, .int .i64 k]
def ringI (r k i : Int) : Int := if k < 1 then -1 else wrap64 (r + wrap64 (i % k))

/-- A line of push. -/
def pushS (s : St) (f : Fra) : St × Fra × Res :=
  if f.ln = 1 then (s.go 1 f.qb id, { f with fu := s.old f.qb, ln := 2 }, .none)
  else if f.ln = 2 then
    if f.qc ≤ sizeI f.fu (s.old f.qt) then (s.go 1 f.qt id, { f with fv := s.old f.qt }, ⟨true, 3, 0⟩)
    else (s.go 1 f.qt id, { f with fv := s.old f.qt, ln := 3 }, .none)
  else if f.ln = 3 then (s.go 2 (ringI f.qr f.qc f.fu) (fun _ => IntKind.u64.wrap f.fa), { f with ln := 4 }, .none)
  else (s.go 2 f.qb (fun _ => IntKind.u64.wrap (f.fu + 1)), f, ⟨true, 0, 0⟩)
theorem u64_nn (x : Int) : 0 ≤ IntKind.u64.wrap x := by rw [IntKind.wrap_u64]; exact Int.emod_nonneg _ (by decide)
abbrev sub1 (u : Int) : Int := IntKind.u64.wrap (u - 1)
abbrev add1 (u : Int) : Int := IntKind.u64.wrap (u + 1)
/-- The line behind line 4 of pop. -/
def pop4 (z : Int) : Int := if z = 0 then 6 else if z < 0 then 9 else 5
/-- A line of pop. -/
def popS (s : St) (f : Fra) : St × Fra × Res :=
  if f.ln = 1 then (s.go 1 f.qb id, { f with fu := s.old f.qb, ln := 2 }, .none)
  else if f.ln = 2 then
    if sizeI f.fu (s.old f.qt) ≤ 0 then (s.go 1 f.qt id, { f with fv := s.old f.qt }, ⟨true, 2, 0⟩)
    else (s.go 1 f.qt id, { f with fv := s.old f.qt, ln := 3 }, .none)
  else if f.ln = 3 then (s.go 2 f.qb (fun _ => sub1 f.fu), { f with ln := 4 }, .none)
  else if f.ln = 4 then (s.go 1 f.qt id, { f with fv := s.old f.qt, ln := pop4 (sizeI (sub1 f.fu) (s.old f.qt)) }, .none)
  else if f.ln = 5 ∨ f.ln = 8 then (s.go 1 (ringI f.qr f.qc (sub1 f.fu)) id, f, ⟨true, 1, IntKind.i64.wrap (s.old (ringI f.qr f.qc (sub1 f.fu)))⟩)
  else if f.ln = 6 then (s.go 3 f.qt (fun x => if x = f.fv then add1 f.fv else x), { f with ln := if s.hit f.qt f.fv then 7 else 9 }, .none)
  else if f.ln = 7 then (s.go 2 f.qb (fun _ => f.fu), { f with ln := 8 }, .none)
  else (s.go 2 f.qb (fun _ => f.fu), f, ⟨true, 2, 0⟩)
/-- A line of steal. -/
def stealS (s : St) (f : Fra) : St × Fra × Res :=
  if f.ln = 1 then (s.go 1 f.qt id, { f with fv := s.old f.qt, ln := 2 }, .none)
  else if f.ln = 2 then
    if sizeI (s.old f.qb) f.fv ≤ 0 then (s.go 1 f.qb id, { f with fu := s.old f.qb }, ⟨true, 2, 0⟩)
    else (s.go 1 f.qb id, { f with fu := s.old f.qb, ln := 3 }, .none)
  else if f.ln = 3 then (s.go 1 (ringI f.qr f.qc f.fv) id, { f with fw := s.old (ringI f.qr f.qc f.fv), ln := 4 }, .none)
  else (s.go 3 f.qt (fun x => if x = f.fv then add1 f.fv else x), f, if s.hit f.qt f.fv then ⟨true, 1, wrap64 f.fw⟩ else ⟨true, 4, 0⟩)
end Go.Proofs.Ytgipddeldddbnaa
