/-
  Blocks known whole, and what changed from one world to the next.
  Words for memory: rows of uint64 cells, and the pure steps of a memory. (Names no type but uint64.)
  What an access changes of a memory's state. No function is named.
  Frames of the reference's machines as plain data, results, sizes, cells of indices; the lines of push and pop. No function and no type is named.
-/
import Derived.Test.YtgipddeldddbnaaGreatRows
import Derived.WalkKit
import Derived.Below
import Derived.Deep.Draws
import Derived.Laws.Rows
import Derived.Laws.OwnMore
import Derived.ChangeSame
namespace Go.Proofs.YtgipddeldddbnaaGreat
open Go Go.RowKit

/-- Block g is just the cells cs of element type t, none of them frozen. -/
def Blk (w : World) (g : Nat) (t : TypeId) (cs : Array Value) : Prop := w.heap[g]? = some (.cells cs t (0, 0))

theorem Blk.lt {w : World} {g : Nat} {t : TypeId} {cs : Array Value} (h : Blk w g t cs) : g < w.heap.size := by
  unfold Blk at h
  by_cases hg : g < w.heap.size
  · exact hg
  · rw [Array.getElem?_eq_none (by omega)] at h
    cases h

theorem Blk.at_ {w : World} {g : Nat} {t : TypeId} {cs : Array Value} (h : Blk w g t cs) (i : Nat) : w.cell? ⟨g, i, none⟩ = cs[i]? := cell_of_row w g i cs t (0, 0) h

theorem Blk.free {w : World} {g : Nat} {t : TypeId} {cs : Array Value} (h : Blk w g t cs) (i : Nat) : w.frozen? ⟨g, i, none⟩ = false := by
  unfold Blk at h
  simp [World.frozen?, h]

theorem Blk.apart {w : World} {g g' : Nat} {t t' : TypeId} {cs cs' : Array Value} (h : Blk w g t cs) (h' : Blk w g' t' cs') (hne : t ≠ t') : g ≠ g' := by
  intro e
  subst e
  unfold Blk at h h'
  rw [h] at h'
  simp only [Option.some.injEq, Obj.cells.injEq] at h'
  exact hne h'.2.1

theorem Blk.put {w : World} {g : Nat} {t : TypeId} {cs : Array Value} (h : Blk w g t cs) (i : Nat) (u : Value) : Blk (w.setCell ⟨g, i, none⟩ u) g t (cs.setIfInBounds i u) := by
  unfold Blk at h ⊢
  simp [World.setCell, Array.getElem?_modify, h]

theorem Blk.made (w : World) (t : TypeId) (cs : Array Value) : Blk (w.alloc (.cells cs t)) w.heap.size t cs := heap_alloc_new w _

theorem Blk.of_same {w w' : World} {g : Nat} {t : TypeId} {cs : Array Value} (h : Blk w g t cs) (e : w'.heap[g]? = w.heap[g]?) : Blk w' g t cs := e.trans h

/-- What changed from w to w': the blocks of S and what is new; the streams are as they were. -/
structure Fr (S : List Nat) (w w' : World) : Prop where
  os : w'.os = w.os
  tape : w'.tape = w.tape
  output : w'.output = w.output
  size : w.heap.size ≤ w'.heap.size
  block : ∀ k, k < w.heap.size → k ∉ S → w'.heap[k]? = w.heap[k]?

theorem Fr.refl (S : List Nat) (w : World) : Fr S w w := ⟨rfl, rfl, rfl, Nat.le_refl _, fun _ _ _ => rfl⟩
theorem Fr.trans {S : List Nat} {a b c : World} (h : Fr S a b) (k : Fr S b c) : Fr S a c :=
  ⟨k.os.trans h.os, k.tape.trans h.tape, k.output.trans h.output, Nat.le_trans h.size k.size, fun i hi hn => (k.block i (Nat.lt_of_lt_of_le hi h.size) hn).trans (h.block i hi hn)⟩
theorem Fr.mono {S T : List Nat} {w w' : World} (h : Fr S w w') (hs : ∀ k, k ∈ S → k ∈ T) : Fr T w w' := ⟨h.os, h.tape, h.output, h.size, fun k hk hn => h.block k hk fun hm => hn (hs k hm)⟩
theorem Fr.alloc {S : List Nat} {a w : World} (h : Fr S a w) (o : Obj) : Fr S a (w.alloc o) :=
  h.trans ⟨rfl, rfl, rfl, by simp, fun k hk _ => Below.heap_alloc w o k hk⟩
theorem Fr.setCell {S : List Nat} {a w : World} (h : Fr S a w) {p : Addr} (hp : p.block ∈ S ∨ a.heap.size ≤ p.block) (u : Value) : Fr S a (w.setCell p u) :=
  ⟨h.os, h.tape, h.output, by have := h.size; simpa [World.setCell] using this, fun k hk hn => (Below.heap_setCell w p u k (by
    intro e
    subst e
    rcases hp with hp | hp
    · exact hn hp
    · omega)).trans (h.block k hk hn)⟩
theorem Fr.drew {S : List Nat} {a w : World} (h : Fr S a w) : Fr S a w.drew := ⟨h.os, h.tape, h.output, h.size, h.block⟩
theorem Fr.drewN {S : List Nat} {a w : World} (h : Fr S a w) (n : Nat) : Fr S a (w.drewN n) := ⟨h.os, h.tape, h.output, h.size, h.block⟩
theorem Fr.below {S : List Nat} {w w' : World} {B : Nat} (h : Fr S w w') (hB : B ≤ w.heap.size) (hs : ∀ k, k ∈ S → B ≤ k) : Below B w w' :=
  ⟨h.os, h.tape, h.output, h.size, fun k hk => h.block k (by omega) fun hm => by have := hs k hm; omega⟩
/-- The blocks of S are new: nothing that was there has changed. -/
theorem Fr.old {S : List Nat} {w w' : World} (h : Below w.heap.size w w') : Fr S w w' := ⟨h.os, h.tape, h.output, h.size, fun k hk _ => h.block k hk⟩
/-- What is new at the beginning may change later. -/
theorem Fr.drop {S T : List Nat} {a b c : World} (h : Fr S a b) (k : Fr T b c) (hs : ∀ x, x ∈ T → x ∈ S ∨ a.heap.size ≤ x) : Fr S a c :=
  ⟨k.os.trans h.os, k.tape.trans h.tape, k.output.trans h.output, Nat.le_trans h.size k.size, fun i hi hn => (k.block i (Nat.lt_of_lt_of_le hi h.size) (fun hm => by
    rcases hs i hm with h1 | h1
    · exact hn h1
    · omega)).trans (h.block i hi hn)⟩
end Go.Proofs.YtgipddeldddbnaaGreat

namespace Go.Proofs.YtgipddeldddbnaaGreat
open Go Go.RowKit

/-- The first n cells of block g, uint64's, hold X; cap is the capacity. -/
structure Row (w : World) (g n cap : Nat) (X : List Int) : Prop where
  len : X.length = n
  le : n ≤ cap
  max : cap ≤ maxLen
  blk : ∃ cur : Array Value, Blk w g 103 cur ∧ cur.size = cap ∧ cur.toList.take n = X.map (Value.int .u64)

theorem Row.cell {w : World} {g n cap : Nat} {X : List Int} (h : Row w g n cap X) {i : Nat} (hi : i < n) : w.cell? ⟨g, i, none⟩ = some (.int .u64 (X.getD i 0)) := by
  obtain ⟨cur, hb, hs, ht⟩ := h.blk
  have hl := h.len
  have hle := h.le
  rw [hb.at_]
  have e : (cur.toList.take n)[i]? = cur[i]? := by
    rw [List.getElem?_take, if_pos hi, Array.getElem?_toList]
  rw [← e, ht, List.getElem?_map, List.getD_eq_getElem?_getD, List.getElem?_eq_getElem (by omega)]
  rfl

theorem Row.free {w : World} {g n cap : Nat} {X : List Int} (h : Row w g n cap X) (i : Nat) : w.frozen? ⟨g, i, none⟩ = false := by
  obtain ⟨cur, hb, _⟩ := h.blk
  exact hb.free i

theorem Row.lt {w : World} {g n cap : Nat} {X : List Int} (h : Row w g n cap X) : g < w.heap.size := by
  obtain ⟨cur, hb, _⟩ := h.blk
  exact hb.lt

theorem Row.of_same {w w' : World} {g n cap : Nat} {X : List Int} (h : Row w g n cap X) (e : w'.heap[g]? = w.heap[g]?) : Row w' g n cap X := by
  obtain ⟨cur, hb, hr⟩ := h.blk
  exact ⟨h.len, h.le, h.max, cur, hb.of_same e, hr⟩

theorem Row.put {w : World} {g n cap : Nat} {X : List Int} (h : Row w g n cap X) {i : Nat} (x : Int) : Row (w.setCell ⟨g, i, none⟩ (.int .u64 x)) g n cap (X.set i x) := by
  obtain ⟨cur, hb, hs, ht⟩ := h.blk
  refine ⟨by simpa using h.len, h.le, h.max, _, hb.put i _, by simpa using hs, ?_⟩
  rw [Array.toList_setIfInBounds, List.take_set, ht, List.map_set]

theorem Row.own {w : World} {g n cap : Nat} {X : List Int} (h : Row w g n cap X) : w.ownsRow g 103 1 (.slice (some ⟨g, 0, none⟩) n cap) n (X.map (Value.int .u64)) := by
  obtain ⟨cur, hb, hs, ht⟩ := h.blk
  exact ⟨by simpa using h.len, .inr ⟨g, cap, cur, rfl, Nat.le_refl _, hb, h.le, h.max, by simpa using hs, by simpa using ht⟩⟩

theorem Row.of_own {w : World} {B n : Nat} {v : Value} {X : List Int} (h : w.ownsRow B 103 1 v n (X.map (Value.int .u64))) (hv : v ≠ .slice none 0 0) :
    ∃ g cap, v = .slice (some ⟨g, 0, none⟩) n cap ∧ B ≤ g ∧ Row w g n cap X := by
  obtain ⟨hl, h | ⟨g, cap, cur, rfl, hB, hb, hn, hm, hs, ht⟩⟩ := h
  · exact absurd h.1 hv
  · exact ⟨g, cap, rfl, hB, by simpa using hl, hn, hm, cur, hb, by simpa using hs, by simpa using ht⟩

/-- What a memory holds: its cells, the number of accesses, and the last one. -/
structure St where
  X : List Int
  c : Int
  k : Int
  i : Int
  o : Int
  v : Int

/-- The state behind an access that leaves y in cell j. -/
def St.acc (s : St) (k : Int) (j : Nat) (y : Int) : St := ⟨s.X.set j y, wrap64 (s.c + 1), k, j, s.X.getD j 0, y⟩

/-- Is there such a cell? -/
def St.has (s : St) (i : Int) : Prop := 0 ≤ i ∧ i < (s.X.length : Int)
instance (s : St) (i : Int) : Decidable (s.has i) := inferInstanceAs (Decidable (0 ≤ i ∧ i < (s.X.length : Int)))
/-- What a cell contains; 0 where there is none. -/
def St.old (s : St) (i : Int) : Int := if s.has i then s.X.getD i.toNat 0 else 0
/-- The state behind an access by which a cell's contents x become F x; where there is no cell, nothing happens. -/
def St.go (s : St) (k i : Int) (F : Int → Int) : St := if s.has i then s.acc k i.toNat (F (s.X.getD i.toNat 0)) else s
/-- Does the cell contain v? -/
def St.hit (s : St) (i v : Int) : Bool := decide (s.has i) && s.old i == v

theorem St.has_no {s : St} {i : Int} (h : ¬ s.has i) : i < 0 ∨ (s.X.length : Int) ≤ i := by unfold St.has at h; omega
end Go.Proofs.YtgipddeldddbnaaGreat

namespace Go.Proofs.YtgipddeldddbnaaGreat
open Go Go.RowKit

theorem go_len (s : St) (k i : Int) (F : Int → Int) : (s.go k i F).X.length = s.X.length := by
  unfold St.go
  split
  · simp [St.acc]
  · rfl
theorem go_has (s : St) (k i j : Int) (F : Int → Int) : (s.go k i F).has j ↔ s.has j := by
  unfold St.has
  rw [go_len]
theorem go_old (s : St) (k i : Int) (F : Int → Int) (h : s.has i) : (s.go k i F).old i = F (s.old i) := by
  have h' := (go_has s k i i F).2 h
  unfold St.old
  rw [if_pos h', if_pos h]
  unfold St.go
  rw [if_pos h]
  have h2 : i.toNat < s.X.length := by have := h.1; have := h.2; omega
  simp [St.acc, List.getD_eq_getElem?_getD, h2]
theorem go_other (s : St) (k i j : Int) (F : Int → Int) (h : i ≠ j) : (s.go k i F).old j = s.old j := by
  unfold St.old
  by_cases hj : s.has j
  · rw [if_pos hj, if_pos ((go_has s k i j F).2 hj)]
    unfold St.go
    split
    · rename_i hi
      have : i.toNat ≠ j.toNat := by have := hi.1; have := hj.1; omega
      simp [St.acc, List.getD_eq_getElem?_getD, this]
    · rfl
  · rw [if_neg hj, if_neg (fun h => hj ((go_has s k i j F).1 h))]
end Go.Proofs.YtgipddeldddbnaaGreat

namespace Go.Proofs.YtgipddeldddbnaaGreat
open Go Go.RowKit
set_option linter.unusedSimpArgs false

/-- A frame: its kind, its line, the deque, its numbers, its words, its list's slice. -/
structure Fra where
  kd : Int
  ln : Int
  qt : Int
  qb : Int
  qr : Int
  qc : Int
  fa : Int
  fb : Int
  fd : Int
  fi : Int
  fj : Int
  fn : Int
  ft : Int
  fu : Int
  fv : Int
  fw : Int
  fx : Int
  fl : Value
/-- A frame at line 1. -/
abbrev fra1 (kd t b r k a : Int) : Fra := ⟨kd, 1, t, b, r, k, a, 0, 0, 0, 0, 0, 0, 0, 0, 0, 0, .slice none 0 0⟩
/-- Its cells. -/
abbrev fcells (f : Fra) : List Value := [.int .i64 f.kd, .int .i64 f.ln, .int .i64 f.qt, .int .i64 f.qb, .int .i64 f.qr, .int .i64 f.qc, .int .i64 f.fa, .int .i64 f.fb, .int .i64 f.fd, .int .i64 f.fi, .int .i64 f.fj, .int .i64 f.fn, .int .i64 f.ft, .int .u64 f.fu, .int .u64 f.fv, .int .u64 f.fw, .int .u64 f.fx, f.fl]
/-- A result. -/
structure Res where
  dn : Bool
  cd : Int
  vl : Int
abbrev Res.none : Res := ⟨false, 0, 0⟩
abbrev rcells' (r : Res) : Array Value := #[.bool r.dn, .int .i64 r.cd, .int .i64 r.vl]
/-- The size of a deque, the cell of an index. -/
def sizeI (b t : Int) : Int := wrap64 (IntKind.u64.wrap (b - t))
/-- The value of a deque. -/
abbrev qv (t b r k : Int) : Value := .agg #[.int .i64 t, .int .i64 b, .int .i64 r, .int .i64 k]
def ringI (r k i : Int) : Int := if k < 1 then -1 else wrap64 (r + wrap64 (i % k))

/-- A line of push. -/
def pushS (s : St) (f : Fra) : St × Fra × Res :=
  if f.ln = 1 then (s.go 1 f.qb id, { f with fu := s.old f.qb, ln := 2 }, .none)
  else if f.ln = 2 then
    if f.qc ≤ sizeI f.fu (s.old f.qt) then (s.go 1 f.qt id, { f with fv := s.old f.qt }, ⟨true, 3, 0⟩)
    else (s.go 1 f.qt id, { f with fv := s.old f.qt, ln := 3 }, .none)
  else if f.ln = 3 then (s.go 2 (ringI f.qr f.qc f.fu) (fun _ => IntKind.u64.wrap f.fa), { f with ln := 4 }, .none)
  else (s.go 2 f.qb (fun _ => IntKind.u64.wrap (f.fu + 1)), f, ⟨true, 0, 0⟩)
theorem u64_nn (x : Int) : 0 ≤ IntKind.u64.wrap x := by rw [IntKind.wrap_u64]; exact Int.emod_nonneg _ (by decide)
abbrev sub1 (u : Int) : Int := IntKind.u64.wrap (u - 1)
abbrev add1 (u : Int) : Int := IntKind.u64.wrap (u + 1)
/-- The line behind line 4 of pop. -/
def pop4 (z : Int) : Int := if z = 0 then 6 else if z < 0 then 9 else 5
/-- A line of pop. -/
def popS (s : St) (f : Fra) : St × Fra × Res :=
  if f.ln = 1 then (s.go 1 f.qb id, { f with fu := s.old f.qb, ln := 2 }, .none)
  else if f.ln = 2 then
    if sizeI f.fu (s.old f.qt) ≤ 0 then (s.go 1 f.qt id, { f with fv := s.old f.qt }, ⟨true, 2, 0⟩)
    else (s.go 1 f.qt id, { f with fv := s.old f.qt, ln := 3 }, .none)
  else if f.ln = 3 then (s.go 2 f.qb (fun _ => sub1 f.fu), { f with ln := 4 }, .none)
  else if f.ln = 4 then (s.go 1 f.qt id, { f with fv := s.old f.qt, ln := pop4 (sizeI (sub1 f.fu) (s.old f.qt)) }, .none)
  else if f.ln = 5 ∨ f.ln = 8 then (s.go 1 (ringI f.qr f.qc (sub1 f.fu)) id, f, ⟨true, 1, IntKind.i64.wrap (s.old (ringI f.qr f.qc (sub1 f.fu)))⟩)
  else if f.ln = 6 then (s.go 3 f.qt (fun x => if x = f.fv then add1 f.fv else x), { f with ln := if s.hit f.qt f.fv then 7 else 9 }, .none)
  else if f.ln = 7 then (s.go 2 f.qb (fun _ => f.fu), { f with ln := 8 }, .none)
  else (s.go 2 f.qb (fun _ => f.fu), f, ⟨true, 2, 0⟩)
/-- A line of steal. -/
def stealS (s : St) (f : Fra) : St × Fra × Res :=
  if f.ln = 1 then (s.go 1 f.qt id, { f with fv := s.old f.qt, ln := 2 }, .none)
  else if f.ln = 2 then
    if sizeI (s.old f.qb) f.fv ≤ 0 then (s.go 1 f.qb id, { f with fu := s.old f.qb }, ⟨true, 2, 0⟩)
    else (s.go 1 f.qb id, { f with fu := s.old f.qb, ln := 3 }, .none)
  else if f.ln = 3 then (s.go 1 (ringI f.qr f.qc f.fv) id, { f with fw := s.old (ringI f.qr f.qc f.fv), ln := 4 }, .none)
  else (s.go 3 f.qt (fun x => if x = f.fv then add1 f.fv else x), f, if s.hit f.qt f.fv then ⟨true, 1, wrap64 f.fw⟩ else ⟨true, 4, 0⟩)
end Go.Proofs.YtgipddeldddbnaaGreat
