/-
  Blocks known whole, and what changed from one world to the next.
  Events as plain data.
  Small words on what a call leaves alone.
  Rows of events of the call's own: what keeps them, an append.
  Slices of events that came in.
-/
import Derived.Test.YtllllbepnnpeeaaGreatRows
import Derived.WalkKit
import Derived.Below
import Derived.Deep.Draws
import Derived.Laws.Rows
import Derived.Laws.OwnMore
import Derived.ChangeSame
import Derived.WalkSpells
import Derived.WalkLawsBesides
import Derived.Lib.Hide
import Derived.Maps.AppendAt
import Derived.Deep.Slices
import Derived.Deep.OwnRows
import Derived.Deep.QuietTactic
import Derived.BigQuiet
import Derived.BigRegion
import Derived.Deep.RegionHeld3
import Derived.Deep.RegionLaw
import Derived.StillTailTactics
namespace Go.Proofs.YtllllbepnnpeeaaGreat
open Go Go.RowKit

/-- Block g is just the cells cs of element type t, none of them frozen. -/
def Blk (w : World) (g : Nat) (t : TypeId) (cs : Array Value) : Prop := w.heap[g]? = some (.cells cs t (0, 0))

theorem Blk.lt {w : World} {g : Nat} {t : TypeId} {cs : Array Value} (h : Blk w g t cs) : g < w.heap.size := by
  unfold Blk at h
  by_cases hg : g < w.heap.size
  · exact hg
  · rw [Array.getElem?_eq_none (by omega)] at h
    cases h

theorem Blk.at_ {w : World} {g : Nat} {t : TypeId} {cs : Array Value} (h : Blk w g t cs) (i : Nat) : w.cell? ⟨g, i, none⟩ = cs[i]? := cell_of_row w g i cs t (0, 0) h

theorem Blk.free {w : World} {g : Nat} {t : TypeId} {cs : Array Value} (h : Blk w g t cs) (i : Nat) : w.frozen? ⟨g, i, none⟩ = false := by
  unfold Blk at h
  simp [World.frozen?, h]

theorem Blk.apart {w : World} {g g' : Nat} {t t' : TypeId} {cs cs' : Array Value} (h : Blk w g t cs) (h' : Blk w g' t' cs') (hne : t ≠ t') : g ≠ g' := by
  intro e
  subst e
  unfold Blk at h h'
  rw [h] at h'
  simp only [Option.some.injEq, Obj.cells.injEq] at h'
  exact hne h'.2.1

theorem Blk.put {w : World} {g : Nat} {t : TypeId} {cs : Array Value} (h : Blk w g t cs) (i : Nat) (u : Value) : Blk (w.setCell ⟨g, i, none⟩ u) g t (cs.setIfInBounds i u) := by
  unfold Blk at h ⊢
  simp [World.setCell, Array.getElem?_modify, h]

theorem Blk.made (w : World) (t : TypeId) (cs : Array Value) : Blk (w.alloc (.cells cs t)) w.heap.size t cs := heap_alloc_new w _

theorem Blk.of_same {w w' : World} {g : Nat} {t : TypeId} {cs : Array Value} (h : Blk w g t cs) (e : w'.heap[g]? = w.heap[g]?) : Blk w' g t cs := e.trans h

/-- What changed from w to w': the blocks of S and what is new; the streams are as they were. -/
structure Fr (S : List Nat) (w w' : World) : Prop where
  os : w'.os = w.os
  tape : w'.tape = w.tape
  output : w'.output = w.output
  size : w.heap.size ≤ w'.heap.size
  block : ∀ k, k < w.heap.size → k ∉ S → w'.heap[k]? = w.heap[k]?

theorem Fr.refl (S : List Nat) (w : World) : Fr S w w := ⟨rfl, rfl, rfl, Nat.le_refl _, fun _ _ _ => rfl⟩
theorem Fr.trans {S : List Nat} {a b c : World} (h : Fr S a b) (k : Fr S b c) : Fr S a c :=
  ⟨k.os.trans h.os, k.tape.trans h.tape, k.output.trans h.output, Nat.le_trans h.size k.size, fun i hi hn => (k.block i (Nat.lt_of_lt_of_le hi h.size) hn).trans (h.block i hi hn)⟩
theorem Fr.mono {S T : List Nat} {w w' : World} (h : Fr S w w') (hs : ∀ k, k ∈ S → k ∈ T) : Fr T w w' := ⟨h.os, h.tape, h.output, h.size, fun k hk hn => h.block k hk fun hm => hn (hs k hm)⟩
theorem Fr.alloc {S : List Nat} {a w : World} (h : Fr S a w) (o : Obj) : Fr S a (w.alloc o) :=
  h.trans ⟨rfl, rfl, rfl, by simp, fun k hk _ => Below.heap_alloc w o k hk⟩
theorem Fr.setCell {S : List Nat} {a w : World} (h : Fr S a w) {p : Addr} (hp : p.block ∈ S ∨ a.heap.size ≤ p.block) (u : Value) : Fr S a (w.setCell p u) :=
  ⟨h.os, h.tape, h.output, by have := h.size; simpa [World.setCell] using this, fun k hk hn => (Below.heap_setCell w p u k (by
    intro e
    subst e
    rcases hp with hp | hp
    · exact hn hp
    · omega)).trans (h.block k hk hn)⟩
theorem Fr.drew {S : List Nat} {a w : World} (h : Fr S a w) : Fr S a w.drew := ⟨h.os, h.tape, h.output, h.size, h.block⟩
theorem Fr.drewN {S : List Nat} {a w : World} (h : Fr S a w) (n : Nat) : Fr S a (w.drewN n) := ⟨h.os, h.tape, h.output, h.size, h.block⟩
theorem Fr.below {S : List Nat} {w w' : World} {B : Nat} (h : Fr S w w') (hB : B ≤ w.heap.size) (hs : ∀ k, k ∈ S → B ≤ k) : Below B w w' :=
  ⟨h.os, h.tape, h.output, h.size, fun k hk => h.block k (by omega) fun hm => by have := hs k hm; omega⟩
/-- The blocks of S are new: nothing that was there has changed. -/
theorem Fr.old {S : List Nat} {w w' : World} (h : Below w.heap.size w w') : Fr S w w' := ⟨h.os, h.tape, h.output, h.size, fun k hk _ => h.block k hk⟩
/-- What is new at the beginning may change later. -/
theorem Fr.drop {S T : List Nat} {a b c : World} (h : Fr S a b) (k : Fr T b c) (hs : ∀ x, x ∈ T → x ∈ S ∨ a.heap.size ≤ x) : Fr S a c :=
  ⟨k.os.trans h.os, k.tape.trans h.tape, k.output.trans h.output, Nat.le_trans h.size k.size, fun i hi hn => (k.block i (Nat.lt_of_lt_of_le hi h.size) (fun hm => by
    rcases hs i hm with h1 | h1
    · exact hn h1
    · omega)).trans (h.block i hi hn)⟩
end Go.Proofs.YtllllbepnnpeeaaGreat

namespace Go.Proofs.YtllllbepnnpeeaaGreat
open Go Go.RowKit
set_option linter.unusedSimpArgs false

/-- An event. -/
structure Ev where
  kd : Int
  wk : Int
  tk : Int
  ot : Int
  lv : Int
  deriving DecidableEq
abbrev evV (e : Ev) : Array Value := #[.int .i64 e.kd, .int .i64 e.wk, .int .i64 e.tk, .int .i64 e.ot, .int .i64 e.lv]
def cellsV : List Ev → List Value
  | [] => []
  | e :: r => .int .i64 e.kd :: .int .i64 e.wk :: .int .i64 e.tk :: .int .i64 e.ot :: .int .i64 e.lv :: cellsV r
theorem cellsV_length : ∀ l : List Ev, (cellsV l).length = l.length * 5
  | [] => rfl
  | e :: r => by
    simp only [cellsV, List.length_cons, cellsV_length r]
    omega
theorem cellsV_append : ∀ a b : List Ev, cellsV (a ++ b) = cellsV a ++ cellsV b
  | [], _ => rfl
  | e :: r, b => by simp [cellsV, cellsV_append r b]
theorem cellsV_one (l : List Ev) : ∀ u ∈ cellsV l, u.oneCell' = true := by
  induction l with
  | nil => intro u hu; cases hu
  | cons e r ih =>
    intro u hu
    simp only [cellsV, List.mem_cons] at hu
    rcases hu with rfl | rfl | rfl | rfl | rfl | hu
    · rfl
    · rfl
    · rfl
    · rfl
    · rfl
    · exact ih u hu
/-- Cell j of element i. -/
theorem cellsV_at : ∀ (l : List Ev) (i j : Nat) (e : Ev), l[i]? = some e → j < 5 → (cellsV l)[i * 5 + j]? = (evV e)[j]?
  | [], _, _, _, h, _ => by simp at h
  | x :: r, 0, j, e, h, hj => by
    simp only [List.getElem?_cons_zero, Option.some.injEq] at h
    subst h
    match j, hj with
    | 0, _ => rfl
    | 1, _ => rfl
    | 2, _ => rfl
    | 3, _ => rfl
    | 4, _ => rfl
    | j + 5, hj => omega
  | x :: r, i + 1, j, e, h, hj => by
    have := cellsV_at r i j e (by simpa using h) hj
    rw [show (i + 1) * 5 + j = i * 5 + j + 1 + 1 + 1 + 1 + 1 by omega]
    simpa [cellsV] using this
/-- A row of events of the call's own. -/
def OwnE (w : World) (base : Nat) (v : Value) (l : List Ev) : Prop := w.ownsRow base 189 5 v l.length (cellsV l)
end Go.Proofs.YtllllbepnnpeeaaGreat

namespace Go.Proofs.YtllllbepnnpeeaaGreat
open Go Go.RowKit

theorem block_add (x : Addr) (i : Nat) : (x.add i).block = x.block := by unfold Addr.add; split <;> rfl
theorem below_one (w : World) (o : Obj) : Below w.heap.size w (w.alloc o) := (Below.refl _ _).alloc (Nat.le_refl _) o
theorem below_drew {w w' : World} {B : Nat} (h : Below B w w') : Below B w w'.drew := ⟨h.os, h.tape, h.output, h.size, h.block⟩
theorem below_drewN (w : World) (m : Nat) : Below w.heap.size w (w.drewN m) := ⟨rfl, rfl, rfl, Nat.le_refl _, fun _ _ => rfl⟩
theorem below_fr {w w' : World} (h : Below w.heap.size w w') : Fr [] w w' := Fr.old h
theorem fr_below {w w' : World} (h : Fr [] w w') : Below w.heap.size w w' := h.below (Nat.le_refl _) (fun k hk => by cases hk)
theorem bcell {W w1 : World} (hb : Below W.heap.size W w1) : (∀ b o, b < W.heap.size → w1.cell? ⟨b, o, none⟩ = W.cell? ⟨b, o, none⟩) ∧ (∀ b o, b < W.heap.size → w1.frozen? ⟨b, o, none⟩ = W.frozen? ⟨b, o, none⟩) :=
  ⟨fun b o h => hb.cell (p := ⟨b, o, none⟩) h, fun b o h => hb.frozen (p := ⟨b, o, none⟩) h⟩

theorem Blk.below {w w' : World} {g : Nat} {t : TypeId} {cs : Array Value} (h : Blk w g t cs) (hb : Below w.heap.size w w') : Blk w' g t cs := h.of_same (hb.block g h.lt)
theorem Blk.alloc {w : World} {g : Nat} {t : TypeId} {cs : Array Value} (h : Blk w g t cs) (o : Obj) : Blk (w.alloc o) g t cs := h.below (below_one w o)
theorem Blk.grown {w w' : World} {g : Nat} {t : TypeId} {cs : Array Value} {row : Option Nat} (h : Blk w g t cs) (hg : w.grownBy w' row) (hne : row ≠ some g) : Blk w' g t cs := h.of_same (hg.block g h.lt (fun e => hne e.symm))

/-- A cell behind the head of a struct, as the walk spells it. -/
theorem cell_field {w : World} {x : Addr} {i j : Nat} {u : Value} (h : w.cell? (x.add (i + (j + 1))) = some u) : w.cell? ⟨(x.add i).block, (x.add i).off + (j + 1), none⟩ = some u := by
  have e : x.add (i + (j + 1)) = ⟨(x.add i).block, (x.add i).off + (j + 1), none⟩ := by
    unfold Addr.add
    by_cases hi : i = 0
    · subst hi
      simp
    · rw [if_neg (by omega), if_neg (by omega)]
      simp [Nat.add_assoc]
  rw [← e]
  exact h
/-- A result in a cell and one in a slot. -/
theorem results_cell_tmp {P : Program} {fn : Func} {p q : Tmp} {ty : TypeId} (h : fn.results = #[.cell p ty, .tmp q]) (tmps : Array Value) (w : World) (g : Nat) (t : TypeId) (cs : Array Value) (fr : Nat × Nat) (d : TypeDesc) (v : Value)
    (hp : tmps.getD p undef = .pointer (some ⟨g, 0, none⟩)) (hq : tmps.getD q undef = v) (hg : w.heap[g]? = some (.cells cs t fr))
    (hu : P.underlying ty = some d) (hd : (match d with | .struct _ | .array _ _ => true | _ => false) = true) (hi : (P.info? ty).map (·.size) = some cs.size) :
    (results fn tmps).run P w = .ok (.tuple #[.agg cs, v]) w := by
  have hp' : tmps[p]?.getD undef = .pointer (some ⟨g, 0, none⟩) := by simpa using hp
  have hq' : tmps[q]?.getD undef = v := by simpa using hq
  simp [results, h, hp', hq', asAddr, run_loadVar_row w g t ty cs fr d hg hu hd hi]
theorem below_of_fr {w0 w w' : World} {S : List Nat} (h : Below w0.heap.size w0 w) (hf : Fr S w w') (hs : ∀ x ∈ S, w0.heap.size ≤ x) : Below w0.heap.size w0 w' :=
  h.trans (hf.below h.size hs)
end Go.Proofs.YtllllbepnnpeeaaGreat

namespace Go.Proofs.YtllllbepnnpeeaaGreat
open Go Go.RowKit
set_option linter.unusedSimpArgs false

theorem info_event : (Tryz.prog.info? 189).map (fun i => (i.zero, i.size, i.bytes)) = some (some (.agg #[.int .i64 0, .int .i64 0, .int .i64 0, .int .i64 0, .int .i64 0]), 5, 40) := by kernel_rfl
/-- The five cells of an event. -/
def FiveV (w : World) (x : Addr) (e : Ev) : Prop := ∀ j u, (cellsV [e])[j]? = some u → w.cell? (x.add j) = some u
theorem fiveV_new (w : World) (kd wk tk ot lv : Int) : FiveV (w.alloc (.cells #[.int .i64 kd, .int .i64 wk, .int .i64 tk, .int .i64 ot, .int .i64 lv] 189)) ⟨w.heap.size, 0, none⟩ ⟨kd, wk, tk, ot, lv⟩ := by
  have hB := Blk.made w 189 #[.int .i64 kd, .int .i64 wk, .int .i64 tk, .int .i64 ot, .int .i64 lv]
  intro j u hu
  match j, hu with
  | 0, hu => exact (hB.at_ 0).trans hu
  | 1, hu => exact (hB.at_ 1).trans hu
  | 2, hu => exact (hB.at_ 2).trans hu
  | 3, hu => exact (hB.at_ 3).trans hu
  | 4, hu => exact (hB.at_ 4).trans hu
  | j + 5, hu => simp [cellsV] at hu
theorem OwnE.below {w w' : World} {B : Nat} {v : Value} {es : List Ev} (h : OwnE w B v es) (hb : Below w.heap.size w w') : OwnE w' B v es := by
  refine ⟨h.1, ?_⟩
  rcases h.2 with h2 | ⟨g, cap, cur, rfl, h2, hg, rest⟩
  · exact .inl h2
  · exact .inr ⟨g, cap, cur, rfl, h2, (hb.block g (Array.getElem?_eq_some_iff.1 hg).1).trans hg, rest⟩
theorem OwnE.lt {w : World} {B : Nat} {v : Value} {es : List Ev} (h : OwnE w B v es) : ∀ k, v.ownBlock = some k → B ≤ k ∧ k < w.heap.size := World.ownsRow.lt h
theorem OwnE.form {w : World} {B : Nat} {v : Value} {es : List Ev} (h : OwnE w B v es) : ∃ a c, v = .slice a es.length c := by
  rcases h.2 with ⟨rfl, h2⟩ | ⟨g, cap, cur, rfl, _⟩
  · rw [h2]
    exact ⟨_, _, rfl⟩
  · exact ⟨_, _, rfl⟩
theorem OwnE.nil (w : World) (B : Nat) : OwnE w B (.slice none 0 0) [] := World.ownsRow_nil w B _ _
theorem wpList_appV {w : World} {ops : Array Oper} {rest : List Oper} {o : Oper} {a : Act} {Q : Exit → Act → World → Prop} (hgd : o.guard = none) (s x : Operand)
    (ho : o.op = .call { callee := .builtin .append, args := #[s, x], argTypes := #[106, 106] })
    {base : Nat} {v : Value} {l : List Ev} (hs : a.eval s = v) (hown : OwnE w base v l) {ad : Addr} {c : Nat} {e : Ev} (hx : a.eval x = .slice (some ad) 1 c) (h5 : FiveV w ad e) (hn : l.length + 1 ≤ 1000000) (hb : base ≤ w.heap.size)
    (h : ∀ v' w', OwnE w' base v' (l ++ [e]) → w.grownBy w' v.ownBlock → (v'.ownBlock = v.ownBlock ∨ v'.ownBlock = some w.heap.size) → wpList Tryz.prog ops Q rest (a.put o.dst v') w') :
    wpList Tryz.prog ops Q (o :: rest) a w := by
  obtain ⟨i0, hi, hz0, hz1, hz2⟩ := info_parts info_event
  refine wpList_append_own_at w hgd s x 106 ho base 189 i0 _ 5 40 Tryz.underlying106 hi hz0 hz1 hz2 rfl (by omega) v l.length (cellsV l) hs hown ad 1 c (cellsV [e]) hx rfl h5 (cellsV_one [e]) (by unfold maxLen; omega) (by omega) hb ?_
  intro v' w' h1 h2 _ h4
  refine h v' w' ?_ h2 h4
  unfold OwnE
  rw [cellsV_append, List.length_append]
  exact h1
theorem OwnE.formN {w : World} {B : Nat} {v : Value} {es : List Ev} {n : Nat} (h : OwnE w B v es) (hn : es.length = n) : ∃ a c, v = .slice a n c := by
  subst hn
  exact h.form
end Go.Proofs.YtllllbepnnpeeaaGreat

namespace Go.Proofs.YtllllbepnnpeeaaGreat
open Go Go.RowKit
set_option linter.unusedSimpArgs false

/-- The slice at a reads as the events es. -/
def InE (w : World) (a : Option Addr) (es : List Ev) : Prop := es.length ≤ maxLen ∧ ∀ i e, es[i]? = some e → ∃ x : Addr, a = some x ∧ x.block < w.heap.size ∧ ∀ j, j < 5 → w.cell? (x.add (i * 5 + j)) = (evV e)[j]?
theorem InE.below {w w' : World} {a : Option Addr} {es : List Ev} (h : InE w a es) (hb : Below w.heap.size w w') : InE w' a es :=
  ⟨h.1, fun i e hi => by
    obtain ⟨x, ha, hx, hc⟩ := h.2 i e hi
    exact ⟨x, ha, Nat.lt_of_lt_of_le hx hb.size, fun j hj => (hb.cell (by rw [block_add]; exact hx)).trans (hc j hj)⟩⟩
theorem InE.at_ {w : World} {a : Option Addr} {es : List Ev} (h : InE w a es) {i : Nat} {e : Ev} (hi : es[i]? = some e) :
    ∃ x : Addr, a = some x ∧ w.cell? (x.add (i * 5)) = some (.int .i64 e.kd) ∧ w.cell? ⟨(x.add (i * 5)).block, (x.add (i * 5)).off + 1, none⟩ = some (.int .i64 e.wk) ∧ w.cell? ⟨(x.add (i * 5)).block, (x.add (i * 5)).off + 2, none⟩ = some (.int .i64 e.tk)
      ∧ w.cell? ⟨(x.add (i * 5)).block, (x.add (i * 5)).off + 3, none⟩ = some (.int .i64 e.ot) ∧ w.cell? ⟨(x.add (i * 5)).block, (x.add (i * 5)).off + 4, none⟩ = some (.int .i64 e.lv) := by
  obtain ⟨x, ha, _, hc⟩ := h.2 i e hi
  exact ⟨x, ha, hc 0 (by omega), cell_field (i := i * 5) (j := 0) (hc 1 (by omega)), cell_field (i := i * 5) (j := 1) (hc 2 (by omega)), cell_field (i := i * 5) (j := 2) (hc 3 (by omega)), cell_field (i := i * 5) (j := 3) (hc 4 (by omega))⟩
theorem OwnE.inE {w : World} {B : Nat} {v : Value} {es : List Ev} (h : OwnE w B v es) : ∃ a c, v = .slice a es.length c ∧ InE w a es := by
  rcases h.2 with ⟨rfl, h2⟩ | ⟨g, cap, cur, rfl, _, hg, hn, hm, _, _⟩
  · have hl : es.length = 0 := h2
    have : es = [] := List.length_eq_zero_iff.1 hl
    subst this
    exact ⟨none, 0, rfl, by unfold maxLen; omega, fun i e hi => by simp at hi⟩
  · refine ⟨_, _, rfl, by unfold maxLen at *; omega, fun i e hi => ⟨_, rfl, (Array.getElem?_eq_some_iff.1 hg).1, fun j hj => ?_⟩⟩
    have e1 := cellsV_at es i j e hi hj
    have hlt : j < (evV e).size := hj
    rw [Array.getElem?_eq_getElem hlt] at e1 ⊢
    exact World.ownsRow.cells h rfl _ _ e1
end Go.Proofs.YtllllbepnnpeeaaGreat
