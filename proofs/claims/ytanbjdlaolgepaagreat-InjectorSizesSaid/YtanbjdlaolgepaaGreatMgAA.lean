/-
  Blocks known whole, and what changed from one world to the next.
  Small words on what a call leaves alone.
  Slices whose elements are rows of k cells: what came in, what is the call's own, appends. No function and no type is named.
  Words for memory: rows of uint64 cells, and the pure steps of a memory. (Names no type but uint64.)
-/
import Derived.Test.YtanbjdlaolgepaaGreatRows
import Derived.WalkKit
import Derived.Below
import Derived.Deep.Draws
import Derived.Laws.Rows
import Derived.Laws.OwnMore
import Derived.ChangeSame
import Derived.WalkSpells
import Derived.WalkLawsBesides
import Derived.Lib.Hide
import Derived.Maps.AppendAt
import Derived.Deep.Slices
import Derived.Deep.OwnRows
import Derived.Deep.QuietTactic
import Derived.BigQuiet
import Derived.BigRegion
import Derived.Deep.RegionHeld3
import Derived.Deep.RegionLaw
import Derived.StillTailTactics
namespace Go.Proofs.YtanbjdlaolgepaaGreat
open Go Go.RowKit

/-- Block g is just the cells cs of element type t, none of them frozen. -/
def Blk (w : World) (g : Nat) (t : TypeId) (cs : Array Value) : Prop := w.heap[g]? = some (.cells cs t (0, 0))

theorem Blk.lt {w : World} {g : Nat} {t : TypeId} {cs : Array Value} (h : Blk w g t cs) : g < w.heap.size := by
  unfold Blk at h
  by_cases hg : g < w.heap.size
  · exact hg
  · rw [Array.getElem?_eq_none (by omega)] at h
    cases h

theorem Blk.at_ {w : World} {g : Nat} {t : TypeId} {cs : Array Value} (h : Blk w g t cs) (i : Nat) : w.cell? ⟨g, i, none⟩ = cs[i]? := cell_of_row w g i cs t (0, 0) h

theorem Blk.free {w : World} {g : Nat} {t : TypeId} {cs : Array Value} (h : Blk w g t cs) (i : Nat) : w.frozen? ⟨g, i, none⟩ = false := by
  unfold Blk at h
  simp [World.frozen?, h]

theorem Blk.apart {w : World} {g g' : Nat} {t t' : TypeId} {cs cs' : Array Value} (h : Blk w g t cs) (h' : Blk w g' t' cs') (hne : t ≠ t') : g ≠ g' := by
  intro e
  subst e
  unfold Blk at h h'
  rw [h] at h'
  simp only [Option.some.injEq, Obj.cells.injEq] at h'
  exact hne h'.2.1

theorem Blk.put {w : World} {g : Nat} {t : TypeId} {cs : Array Value} (h : Blk w g t cs) (i : Nat) (u : Value) : Blk (w.setCell ⟨g, i, none⟩ u) g t (cs.setIfInBounds i u) := by
  unfold Blk at h ⊢
  simp [World.setCell, Array.getElem?_modify, h]

theorem Blk.made (w : World) (t : TypeId) (cs : Array Value) : Blk (w.alloc (.cells cs t)) w.heap.size t cs := heap_alloc_new w _

theorem Blk.of_same {w w' : World} {g : Nat} {t : TypeId} {cs : Array Value} (h : Blk w g t cs) (e : w'.heap[g]? = w.heap[g]?) : Blk w' g t cs := e.trans h

/-- What changed from w to w': the blocks of S and what is new; the streams are as they were. -/
structure Fr (S : List Nat) (w w' : World) : Prop where
  os : w'.os = w.os
  tape : w'.tape = w.tape
  output : w'.output = w.output
  size : w.heap.size ≤ w'.heap.size
  block : ∀ k, k < w.heap.size → k ∉ S → w'.heap[k]? = w.heap[k]?

theorem Fr.refl (S : List Nat) (w : World) : Fr S w w := ⟨rfl, rfl, rfl, Nat.le_refl _, fun _ _ _ => rfl⟩
theorem Fr.trans {S : List Nat} {a b c : World} (h : Fr S a b) (k : Fr S b c) : Fr S a c :=
  ⟨k.os.trans h.os, k.tape.trans h.tape, k.output.trans h.output, Nat.le_trans h.size k.size, fun i hi hn => (k.block i (Nat.lt_of_lt_of_le hi h.size) hn).trans (h.block i hi hn)⟩
theorem Fr.mono {S T : List Nat} {w w' : World} (h : Fr S w w') (hs : ∀ k, k ∈ S → k ∈ T) : Fr T w w' := ⟨h.os, h.tape, h.output, h.size, fun k hk hn => h.block k hk fun hm => hn (hs k hm)⟩
theorem Fr.alloc {S : List Nat} {a w : World} (h : Fr S a w) (o : Obj) : Fr S a (w.alloc o) :=
  h.trans ⟨rfl, rfl, rfl, by simp, fun k hk _ => Below.heap_alloc w o k hk⟩
theorem Fr.setCell {S : List Nat} {a w : World} (h : Fr S a w) {p : Addr} (hp : p.block ∈ S ∨ a.heap.size ≤ p.block) (u : Value) : Fr S a (w.setCell p u) :=
  ⟨h.os, h.tape, h.output, by have := h.size; simpa [World.setCell] using this, fun k hk hn => (Below.heap_setCell w p u k (by
    intro e
    subst e
    rcases hp with hp | hp
    · exact hn hp
    · omega)).trans (h.block k hk hn)⟩
theorem Fr.drew {S : List Nat} {a w : World} (h : Fr S a w) : Fr S a w.drew := ⟨h.os, h.tape, h.output, h.size, h.block⟩
theorem Fr.drewN {S : List Nat} {a w : World} (h : Fr S a w) (n : Nat) : Fr S a (w.drewN n) := ⟨h.os, h.tape, h.output, h.size, h.block⟩
theorem Fr.below {S : List Nat} {w w' : World} {B : Nat} (h : Fr S w w') (hB : B ≤ w.heap.size) (hs : ∀ k, k ∈ S → B ≤ k) : Below B w w' :=
  ⟨h.os, h.tape, h.output, h.size, fun k hk => h.block k (by omega) fun hm => by have := hs k hm; omega⟩
/-- The blocks of S are new: nothing that was there has changed. -/
theorem Fr.old {S : List Nat} {w w' : World} (h : Below w.heap.size w w') : Fr S w w' := ⟨h.os, h.tape, h.output, h.size, fun k hk _ => h.block k hk⟩
/-- What is new at the beginning may change later. -/
theorem Fr.drop {S T : List Nat} {a b c : World} (h : Fr S a b) (k : Fr T b c) (hs : ∀ x, x ∈ T → x ∈ S ∨ a.heap.size ≤ x) : Fr S a c :=
  ⟨k.os.trans h.os, k.tape.trans h.tape, k.output.trans h.output, Nat.le_trans h.size k.size, fun i hi hn => (k.block i (Nat.lt_of_lt_of_le hi h.size) (fun hm => by
    rcases hs i hm with h1 | h1
    · exact hn h1
    · omega)).trans (h.block i hi hn)⟩
end Go.Proofs.YtanbjdlaolgepaaGreat

namespace Go.Proofs.YtanbjdlaolgepaaGreat
open Go Go.RowKit

theorem block_add (x : Addr) (i : Nat) : (x.add i).block = x.block := by unfold Addr.add; split <;> rfl
theorem below_one (w : World) (o : Obj) : Below w.heap.size w (w.alloc o) := (Below.refl _ _).alloc (Nat.le_refl _) o
theorem below_drew {w w' : World} {B : Nat} (h : Below B w w') : Below B w w'.drew := ⟨h.os, h.tape, h.output, h.size, h.block⟩
theorem below_drewN (w : World) (m : Nat) : Below w.heap.size w (w.drewN m) := ⟨rfl, rfl, rfl, Nat.le_refl _, fun _ _ => rfl⟩
theorem fr_below {w w' : World} (h : Fr [] w w') : Below w.heap.size w w' := h.below (Nat.le_refl _) (fun k hk => by cases hk)
theorem Blk.below {w w' : World} {g : Nat} {t : TypeId} {cs : Array Value} (h : Blk w g t cs) (hb : Below w.heap.size w w') : Blk w' g t cs := h.of_same (hb.block g h.lt)
theorem Blk.alloc {w : World} {g : Nat} {t : TypeId} {cs : Array Value} (h : Blk w g t cs) (o : Obj) : Blk (w.alloc o) g t cs := h.below (below_one w o)
theorem Blk.grown {w w' : World} {g : Nat} {t : TypeId} {cs : Array Value} {row : Option Nat} (h : Blk w g t cs) (hg : w.grownBy w' row) (hne : row ≠ some g) : Blk w' g t cs := h.of_same (hg.block g h.lt (fun e => hne e.symm))

/-- A cell behind the head of a struct, as the walk spells it. -/
theorem cell_field {w : World} {x : Addr} {i j : Nat} {u : Value} (h : w.cell? (x.add (i + (j + 1))) = some u) : w.cell? ⟨(x.add i).block, (x.add i).off + (j + 1), none⟩ = some u := by
  have e : x.add (i + (j + 1)) = ⟨(x.add i).block, (x.add i).off + (j + 1), none⟩ := by
    unfold Addr.add
    by_cases hi : i = 0
    · subst hi
      simp
    · rw [if_neg (by omega), if_neg (by omega)]
      simp [Nat.add_assoc]
  rw [← e]
  exact h
/-- A result in a cell and one in a slot. -/
theorem results_cell_tmp {P : Program} {fn : Func} {p q : Tmp} {ty : TypeId} (h : fn.results = #[.cell p ty, .tmp q]) (tmps : Array Value) (w : World) (g : Nat) (t : TypeId) (cs : Array Value) (fr : Nat × Nat) (d : TypeDesc) (v : Value)
    (hp : tmps.getD p undef = .pointer (some ⟨g, 0, none⟩)) (hq : tmps.getD q undef = v) (hg : w.heap[g]? = some (.cells cs t fr))
    (hu : P.underlying ty = some d) (hd : (match d with | .struct _ | .array _ _ => true | _ => false) = true) (hi : (P.info? ty).map (·.size) = some cs.size) :
    (results fn tmps).run P w = .ok (.tuple #[.agg cs, v]) w := by
  have hp' : tmps[p]?.getD undef = .pointer (some ⟨g, 0, none⟩) := by simpa using hp
  have hq' : tmps[q]?.getD undef = v := by simpa using hq
  simp [results, h, hp', hq', asAddr, run_loadVar_row w g t ty cs fr d hg hu hd hi]
theorem below_of_fr {w0 w w' : World} {S : List Nat} (h : Below w0.heap.size w0 w) (hf : Fr S w w') (hs : ∀ x ∈ S, w0.heap.size ≤ x) : Below w0.heap.size w0 w' :=
  h.trans (hf.below h.size hs)
end Go.Proofs.YtanbjdlaolgepaaGreat

namespace Go.Proofs.YtanbjdlaolgepaaGreat
open Go Go.RowKit
set_option linter.unusedSimpArgs false

/-- Rows of k cells each. -/
def RowsK (k : Nat) (R : List (List Value)) : Prop := ∀ r, r ∈ R → r.length = k ∧ ∀ u, u ∈ r → u.oneCell' = true
theorem RowsK.nil (k : Nat) : RowsK k [] := fun r hr => by cases hr
theorem RowsK.cons {k : Nat} {r : List Value} {R : List (List Value)} (h : RowsK k R) (hr : r.length = k ∧ ∀ u, u ∈ r → u.oneCell' = true) : RowsK k (r :: R) := fun x hx => by
  rcases List.mem_cons.1 hx with rfl | hx
  · exact hr
  · exact h x hx
theorem RowsK.append {k : Nat} {R Q : List (List Value)} (h : RowsK k R) (h' : RowsK k Q) : RowsK k (R ++ Q) := fun x hx => by
  rcases List.mem_append.1 hx with hx | hx
  · exact h x hx
  · exact h' x hx
section
variable {w w' : World} {k : Nat} {a : Option Addr} {R : List (List Value)}
end
/-- The slice v is the call's own (nil, or a row from block B on) and holds the rows R. -/
def OwnG (w : World) (B : Nat) (t : TypeId) (k : Nat) (v : Value) (R : List (List Value)) : Prop := RowsK k R ∧ w.ownsRow B t k v R.length R.flatten
section
variable {w w' : World} {B k : Nat} {t : TypeId} {v : Value} {R : List (List Value)}
theorem OwnG.nil (w : World) (B : Nat) (t : TypeId) (k : Nat) : OwnG w B t k (.slice none 0 0) [] := ⟨RowsK.nil k, World.ownsRow_nil w B _ _⟩
theorem OwnG.lt (h : OwnG w B t k v R) : ∀ b, v.ownBlock = some b → B ≤ b ∧ b < w.heap.size := World.ownsRow.lt h.2
theorem OwnG.same (h : OwnG w B t k v R) (e : ∀ b, v.ownBlock = some b → w'.heap[b]? = w.heap[b]?) : OwnG w' B t k v R := by
  refine ⟨h.1, h.2.1, ?_⟩
  rcases h.2.2 with h2 | ⟨g, cap, cur, rfl, h2, hg, rest⟩
  · exact .inl h2
  · exact .inr ⟨g, cap, cur, rfl, h2, (e g rfl).trans hg, rest⟩
theorem OwnG.below (h : OwnG w B t k v R) (hb : Below w.heap.size w w') : OwnG w' B t k v R := h.same fun b hb' => hb.block b (h.lt b hb').2
theorem OwnG.form (h : OwnG w B t k v R) : ∃ a c, v = .slice a R.length c ∧ R.length ≤ c := by
  rcases h.2.2 with ⟨rfl, h2⟩ | ⟨g, cap, cur, rfl, _, _, hn, _⟩
  · rw [h2]
    exact ⟨_, _, rfl, Nat.le_refl _⟩
  · exact ⟨_, _, rfl, hn⟩
theorem OwnG.ty (h : OwnG w B t k v R) : ∀ b, v.ownBlock = some b → ∃ cur, Blk w b t cur := by
  intro b hb
  rcases h.2.2 with ⟨rfl, _⟩ | ⟨g, cap, cur, rfl, _, hg, _⟩
  · cases hb
  · simp only [Value.ownBlock, Option.some.injEq] at hb
    subst hb
    exact ⟨cur, hg⟩
end
theorem info_partsG {P : Program} {e : TypeId} {z : Value} {k b : Nat} (h : (P.info? e).map (fun i => (i.zero, i.size, i.bytes)) = some (some z, k, b)) : ∃ i0, P.info? e = some i0 ∧ i0.zero = some z ∧ i0.size = k ∧ i0.bytes = b := by
  cases hi : P.info? e with
  | none => rw [hi] at h; simp at h
  | some i0 =>
    rw [hi] at h
    simp only [Option.map_some, Option.some.injEq, Prod.mk.injEq] at h
    exact ⟨i0, rfl, h.1, h.2.1, h.2.2⟩
/-- A row in a block of its own. -/
theorem made_row1 {w : World} {g : Nat} {t : TypeId} {r : List Value} (h : Blk w g t r.toArray) : ∀ j u, r[j]? = some u → w.cell? ((⟨g, 0, none⟩ : Addr).add j) = some u := by
  intro j u hu
  have ea : (⟨g, 0, none⟩ : Addr).add j = ⟨g, j, none⟩ := by
    unfold Addr.add
    split
    · rename_i h0
      rw [h0]
    · simp
  rw [ea, h.at_, List.getElem?_toArray]
  exact hu
end Go.Proofs.YtanbjdlaolgepaaGreat

namespace Go.Proofs.YtanbjdlaolgepaaGreat
open Go Go.RowKit

/-- The first n cells of block g, uint64's, hold X; cap is the capacity. -/
structure Row (w : World) (g n cap : Nat) (X : List Int) : Prop where
  len : X.length = n
  le : n ≤ cap
  max : cap ≤ maxLen
  blk : ∃ cur : Array Value, Blk w g 46 cur ∧ cur.size = cap ∧ cur.toList.take n = X.map (Value.int .u64)

theorem Row.cell {w : World} {g n cap : Nat} {X : List Int} (h : Row w g n cap X) {i : Nat} (hi : i < n) : w.cell? ⟨g, i, none⟩ = some (.int .u64 (X.getD i 0)) := by
  obtain ⟨cur, hb, hs, ht⟩ := h.blk
  have hl := h.len
  have hle := h.le
  rw [hb.at_]
  have e : (cur.toList.take n)[i]? = cur[i]? := by
    rw [List.getElem?_take, if_pos hi, Array.getElem?_toList]
  rw [← e, ht, List.getElem?_map, List.getD_eq_getElem?_getD, List.getElem?_eq_getElem (by omega)]
  rfl

theorem Row.free {w : World} {g n cap : Nat} {X : List Int} (h : Row w g n cap X) (i : Nat) : w.frozen? ⟨g, i, none⟩ = false := by
  obtain ⟨cur, hb, _⟩ := h.blk
  exact hb.free i

theorem Row.lt {w : World} {g n cap : Nat} {X : List Int} (h : Row w g n cap X) : g < w.heap.size := by
  obtain ⟨cur, hb, _⟩ := h.blk
  exact hb.lt

theorem Row.of_same {w w' : World} {g n cap : Nat} {X : List Int} (h : Row w g n cap X) (e : w'.heap[g]? = w.heap[g]?) : Row w' g n cap X := by
  obtain ⟨cur, hb, hr⟩ := h.blk
  exact ⟨h.len, h.le, h.max, cur, hb.of_same e, hr⟩

theorem Row.put {w : World} {g n cap : Nat} {X : List Int} (h : Row w g n cap X) {i : Nat} (x : Int) : Row (w.setCell ⟨g, i, none⟩ (.int .u64 x)) g n cap (X.set i x) := by
  obtain ⟨cur, hb, hs, ht⟩ := h.blk
  refine ⟨by simpa using h.len, h.le, h.max, _, hb.put i _, by simpa using hs, ?_⟩
  rw [Array.toList_setIfInBounds, List.take_set, ht, List.map_set]

theorem Row.own {w : World} {g n cap : Nat} {X : List Int} (h : Row w g n cap X) : w.ownsRow g 46 1 (.slice (some ⟨g, 0, none⟩) n cap) n (X.map (Value.int .u64)) := by
  obtain ⟨cur, hb, hs, ht⟩ := h.blk
  exact ⟨by simpa using h.len, .inr ⟨g, cap, cur, rfl, Nat.le_refl _, hb, h.le, h.max, by simpa using hs, by simpa using ht⟩⟩

theorem Row.of_own {w : World} {B n : Nat} {v : Value} {X : List Int} (h : w.ownsRow B 46 1 v n (X.map (Value.int .u64))) (hv : v ≠ .slice none 0 0) :
    ∃ g cap, v = .slice (some ⟨g, 0, none⟩) n cap ∧ B ≤ g ∧ Row w g n cap X := by
  obtain ⟨hl, h | ⟨g, cap, cur, rfl, hB, hb, hn, hm, hs, ht⟩⟩ := h
  · exact absurd h.1 hv
  · exact ⟨g, cap, rfl, hB, by simpa using hl, hn, hm, cur, hb, by simpa using hs, by simpa using ht⟩

/-- What a memory holds: its cells, the number of accesses, and the last one. -/
structure St where
  X : List Int
  c : Int
  k : Int
  i : Int
  o : Int
  v : Int

/-- The state behind an access that leaves y in cell j. -/
def St.acc (s : St) (k : Int) (j : Nat) (y : Int) : St := ⟨s.X.set j y, wrap64 (s.c + 1), k, j, s.X.getD j 0, y⟩

/-- Is there such a cell? -/
def St.has (s : St) (i : Int) : Prop := 0 ≤ i ∧ i < (s.X.length : Int)
instance (s : St) (i : Int) : Decidable (s.has i) := inferInstanceAs (Decidable (0 ≤ i ∧ i < (s.X.length : Int)))
/-- What a cell contains; 0 where there is none. -/
def St.old (s : St) (i : Int) : Int := if s.has i then s.X.getD i.toNat 0 else 0
/-- The state behind an access by which a cell's contents x become F x; where there is no cell, nothing happens. -/
def St.go (s : St) (k i : Int) (F : Int → Int) : St := if s.has i then s.acc k i.toNat (F (s.X.getD i.toNat 0)) else s
theorem St.has_no {s : St} {i : Int} (h : ¬ s.has i) : i < 0 ∨ (s.X.length : Int) ≤ i := by unfold St.has at h; omega
end Go.Proofs.YtanbjdlaolgepaaGreat
