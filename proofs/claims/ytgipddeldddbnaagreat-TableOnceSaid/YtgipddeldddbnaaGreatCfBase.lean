/-
  Slices of triples, slices of slices of triples and configurations, as the walks are told of them.
-/
import Derived.Test.YtgipddeldddbnaaGreatCfMath
import Derived.Test.YtgipddeldddbnaaGreatMgAA
import Derived.Test.YtgipddeldddbnaaGreatMgAD
import Derived.WalkSpells
import Derived.WalkLawsBesides
import Derived.Lib.Hide
import Derived.Maps.AppendAt
import Derived.Deep.Slices
import Derived.Deep.OwnRows
import Derived.Deep.QuietTactic
import Derived.BigQuiet
import Derived.BigRegion
import Derived.Deep.RegionHeld3
import Derived.Deep.RegionLaw
import Derived.StillTailTactics
namespace Go.Proofs.YtgipddeldddbnaaGreat
open Go Go.RowKit

abbrev z3 : T3 := (0, 0, 0)

/-- The slice (a, n) reads as the triples l, in a block from B on. -/
def Tris (w : World) (B : Nat) (a : Option Addr) (n : Nat) (l : List T3) : Prop :=
  l.length = n ∧ n ≤ maxLen ∧ ∀ i, i < n → ∃ x : Addr, a = some x ∧ B ≤ x.block ∧ x.block < w.heap.size ∧ w.cell? (x.add (i * 3)) = some (.int .i64 (l.getD i z3).1) ∧ w.cell? (x.add (i * 3 + 1)) = some (.int .i64 (l.getD i z3).2.1) ∧ w.cell? (x.add (i * 3 + 2)) = some (.int .i64 (l.getD i z3).2.2)

theorem Tris.mono {w : World} {B B' : Nat} {a : Option Addr} {n : Nat} {l : List T3} (h : Tris w B a n l) (hb : B' ≤ B) : Tris w B' a n l :=
  ⟨h.1, h.2.1, fun i hi => by
    obtain ⟨x, e, hB, r⟩ := h.2.2 i hi
    exact ⟨x, e, Nat.le_trans hb hB, r⟩⟩
theorem Tris.below {w w' : World} {B : Nat} {a : Option Addr} {n : Nat} {l : List T3} (h : Tris w B a n l) (hb : Below w.heap.size w w') : Tris w' B a n l :=
  ⟨h.1, h.2.1, fun i hi => by
    obtain ⟨x, e, hB, hx, h0, h1, h2⟩ := h.2.2 i hi
    have hc : ∀ j, w'.cell? (x.add j) = w.cell? (x.add j) := fun j => hb.cell (by rw [block_add]; exact hx)
    exact ⟨x, e, hB, Nat.lt_of_lt_of_le hx hb.size, (hc _).trans h0, (hc _).trans h1, (hc _).trans h2⟩⟩
theorem tris_nil (w : World) (B : Nat) (a : Option Addr) : Tris w B a 0 [] := ⟨rfl, by omega, fun i hi => by omega⟩
theorem Tris.at_ {w : World} {B : Nat} {a : Option Addr} {n : Nat} {l : List T3} (h : Tris w B a n l) {i : Nat} (hi : i < n) :
    ∃ (x : Addr) (o p q : Int), a = some x ∧ l[i]? = some (o, p, q) ∧ B ≤ x.block ∧ x.block < w.heap.size ∧ w.cell? (x.add (i * 3)) = some (.int .i64 o) ∧ w.cell? ⟨(x.add (i * 3)).block, (x.add (i * 3)).off + 1, none⟩ = some (.int .i64 p) ∧ w.cell? ⟨(x.add (i * 3)).block, (x.add (i * 3)).off + 2, none⟩ = some (.int .i64 q) := by
  obtain ⟨x, e, hB, hx, h0, h1, h2⟩ := h.2.2 i hi
  have hl : i < l.length := by rw [h.1]; exact hi
  refine ⟨x, (l.getD i z3).1, (l.getD i z3).2.1, (l.getD i z3).2.2, e, ?_, hB, hx, h0, cell_field (i := i * 3) (j := 0) h1, cell_field (i := i * 3) (j := 1) h2⟩
  rw [List.getD_eq_getElem?_getD, List.getElem?_eq_getElem hl]
  rfl
/-- A store of a number leaves a slice of triples one. -/
theorem cell_put {w : World} {p q : Addr} {u v : Int} (h : w.cell? q = some (.int .i64 u)) : ∃ u', (w.setCell p (.int .i64 v)).cell? q = some (.int .i64 u') := by
  by_cases e : p = q
  · subst e
    exact ⟨v, World.cell?_setCell_same _ _ _ h⟩
  · exact ⟨u, by rw [World.cell?_setCell_other _ _ _ _ e]; exact h⟩
theorem list_of {α : Type} (d : α) (P : Nat → α → Prop) : ∀ n, (∀ i, i < n → ∃ e, P i e) → ∃ l : List α, l.length = n ∧ ∀ i, i < n → P i (l.getD i d)
  | 0, _ => ⟨[], rfl, fun i hi => by omega⟩
  | n + 1, h => by
    obtain ⟨l, hl, hp⟩ := list_of d P n (fun i hi => h i (by omega))
    obtain ⟨e, he⟩ := h n (by omega)
    refine ⟨l ++ [e], by simp [hl], fun i hi => ?_⟩
    by_cases hin : i < n
    · have e1 : (l ++ [e]).getD i d = l.getD i d := by
        rw [List.getD_eq_getElem?_getD, List.getD_eq_getElem?_getD, List.getElem?_append_left (by omega)]
      rw [e1]
      exact hp i hin
    · obtain rfl : i = n := by omega
      have e1 : (l ++ [e]).getD i d = e := by
        rw [List.getD_eq_getElem?_getD, List.getElem?_append_right (by omega), hl, Nat.sub_self]
        rfl
      rw [e1]
      exact he
theorem Tris.put {w : World} {B : Nat} {a : Option Addr} {n : Nat} {l : List T3} (h : Tris w B a n l) (p : Addr) (v : Int) : ∃ l', Tris (w.setCell p (.int .i64 v)) B a n l' := by
  obtain ⟨l', hl, hp⟩ := list_of z3 (fun i (e : T3) => ∃ x : Addr, a = some x ∧ B ≤ x.block ∧ x.block < (w.setCell p (.int .i64 v)).heap.size ∧ (w.setCell p (.int .i64 v)).cell? (x.add (i * 3)) = some (.int .i64 e.1) ∧ (w.setCell p (.int .i64 v)).cell? (x.add (i * 3 + 1)) = some (.int .i64 e.2.1) ∧ (w.setCell p (.int .i64 v)).cell? (x.add (i * 3 + 2)) = some (.int .i64 e.2.2)) n (fun i hi => by
    obtain ⟨x, e, hB, hx, h0, h1, h2⟩ := h.2.2 i hi
    obtain ⟨u0, g0⟩ := cell_put (p := p) (v := v) h0
    obtain ⟨u1, g1⟩ := cell_put (p := p) (v := v) h1
    obtain ⟨u2, g2⟩ := cell_put (p := p) (v := v) h2
    exact ⟨(u0, u1, u2), x, e, hB, by simpa [World.setCell] using hx, g0, g1, g2⟩)
  exact ⟨l', hl, h.2.1, hp⟩

/-- The slice (a, n) reads as the programs ps, all in blocks from B on. -/
def Prgs (w : World) (B : Nat) (a : Option Addr) (n : Nat) (ps : List (List T3)) : Prop :=
  ps.length = n ∧ n ≤ maxLen ∧ ∀ i, i < n → ∃ (x : Addr) (b : Option Addr) (m c : Nat), a = some x ∧ B ≤ x.block ∧ x.block < w.heap.size ∧ w.cell? (x.add i) = some (.slice b m c) ∧ Tris w B b m (ps.getD i [])
theorem Prgs.mono {w : World} {B B' : Nat} {a : Option Addr} {n : Nat} {ps : List (List T3)} (h : Prgs w B a n ps) (hb : B' ≤ B) : Prgs w B' a n ps :=
  ⟨h.1, h.2.1, fun i hi => by
    obtain ⟨x, b, m, c, e, hB, hx, h0, ht⟩ := h.2.2 i hi
    exact ⟨x, b, m, c, e, Nat.le_trans hb hB, hx, h0, ht.mono hb⟩⟩
theorem Prgs.below {w w' : World} {B : Nat} {a : Option Addr} {n : Nat} {ps : List (List T3)} (h : Prgs w B a n ps) (hb : Below w.heap.size w w') : Prgs w' B a n ps :=
  ⟨h.1, h.2.1, fun i hi => by
    obtain ⟨x, b, m, c, e, hB, hx, h0, ht⟩ := h.2.2 i hi
    exact ⟨x, b, m, c, e, hB, Nat.lt_of_lt_of_le hx hb.size, (hb.cell (by rw [block_add]; exact hx)).trans h0, ht.below hb⟩⟩
theorem prgs_nil (w : World) (B : Nat) (a : Option Addr) : Prgs w B a 0 [] := ⟨rfl, by omega, fun i hi => by omega⟩
theorem Prgs.at_ {w : World} {B : Nat} {a : Option Addr} {n : Nat} {ps : List (List T3)} (h : Prgs w B a n ps) {i : Nat} (hi : i < n) :
    ∃ (x : Addr) (b : Option Addr) (m c : Nat) (p : List T3), a = some x ∧ ps[i]? = some p ∧ B ≤ x.block ∧ x.block < w.heap.size ∧ w.cell? (x.add i) = some (.slice b m c) ∧ Tris w B b m p := by
  obtain ⟨x, b, m, c, e, hB, hx, h0, ht⟩ := h.2.2 i hi
  have hl : i < ps.length := by rw [h.1]; exact hi
  refine ⟨x, b, m, c, ps.getD i [], e, ?_, hB, hx, h0, ht⟩
  rw [List.getD_eq_getElem?_getD, List.getElem?_eq_getElem hl]
  rfl
/-- A store of a number where one was leaves programs programs. -/
theorem Prgs.put {w : World} {B : Nat} {a : Option Addr} {n : Nat} {ps : List (List T3)} (h : Prgs w B a n ps) {p : Addr} {u : Int} (hp : w.cell? p = some (.int .i64 u)) (v : Int) :
    ∃ ps', Prgs (w.setCell p (.int .i64 v)) B a n ps' ∧ ∀ i, (ps'.getD i []).length = (ps.getD i []).length := by
  obtain ⟨ps', hl, hh⟩ := list_of [] (fun i (e : List T3) => (e.length = (ps.getD i []).length) ∧ ∃ (x : Addr) (b : Option Addr) (m c : Nat), a = some x ∧ B ≤ x.block ∧ x.block < (w.setCell p (.int .i64 v)).heap.size ∧ (w.setCell p (.int .i64 v)).cell? (x.add i) = some (.slice b m c) ∧ Tris (w.setCell p (.int .i64 v)) B b m e) n (fun i hi => by
    obtain ⟨x, b, m, c, e, hB, hx, h0, ht⟩ := h.2.2 i hi
    obtain ⟨l', hl'⟩ := ht.put p v
    have hne : p ≠ x.add i := by
      intro e'
      subst e'
      rw [h0] at hp
      cases hp
    exact ⟨l', by rw [hl'.1, ht.1], x, b, m, c, e, hB, by simpa [World.setCell] using hx, by rw [World.cell?_setCell_other _ _ _ _ hne]; exact h0, hl'⟩)
  refine ⟨ps', ⟨hl, h.2.1, fun i hi => (hh i hi).2⟩, fun i => ?_⟩
  by_cases hi : i < n
  · exact (hh i hi).1
  · have e1 : ps'.getD i [] = [] := by rw [List.getD_eq_getElem?_getD, List.getElem?_eq_none (by omega)]; rfl
    have e2 : ps.getD i [] = [] := by rw [List.getD_eq_getElem?_getD, List.getElem?_eq_none (by have := h.1; omega)]; rfl
    rw [e1, e2]

/-- The slices (pa, pn) and (sa, sn) read as the lists of c. -/
structure Lists (w : World) (B : Nat) (c : Cfg) (pa : Option Addr) (pn : Nat) (sa : Option Addr) (sn : Nat) : Prop where
  pr : Prgs w B pa pn c.pr
  su : Tris w B sa sn c.su
theorem Lists.mono {w : World} {B B' : Nat} {c : Cfg} {pa sa : Option Addr} {pn sn : Nat} (h : Lists w B c pa pn sa sn) (hb : B' ≤ B) : Lists w B' c pa pn sa sn := ⟨h.pr.mono hb, h.su.mono hb⟩
theorem Lists.below {w w' : World} {B : Nat} {c : Cfg} {pa sa : Option Addr} {pn sn : Nat} (h : Lists w B c pa pn sa sn) (hb : Below w.heap.size w w') : Lists w' B c pa pn sa sn := ⟨h.pr.below hb, h.su.below hb⟩
theorem Lists.alloc {w : World} {B : Nat} {c : Cfg} {pa sa : Option Addr} {pn sn : Nat} (h : Lists w B c pa pn sa sn) (o : Obj) : Lists (w.alloc o) B c pa pn sa sn := h.below (below_one w o)
theorem Lists.drew {w : World} {B : Nat} {c : Cfg} {pa sa : Option Addr} {pn sn : Nat} (h : Lists w B c pa pn sa sn) : Lists w.drew B c pa pn sa sn := h.below (below_drew (Below.refl _ _))

/-- The value of a configuration. -/
abbrev cv (c : Cfg) (pa : Option Addr) (pn pc : Nat) (sa : Option Addr) (sn sc : Nat) : Value :=
  .agg #[.int .i64 c.wo, .int .i64 c.le, .int .i64 c.cl, .int .i64 c.ta, .int .i64 c.de, .int .i64 c.he, .int .i64 c.ba, .int .i64 c.ag, .int .i64 c.pa, .slice pa pn pc, .slice sa sn sc]
/-- Its cells. -/
abbrev cc (c : Cfg) (pa : Option Addr) (pn pc : Nat) (sa : Option Addr) (sn sc : Nat) : Array Value :=
  #[.int .i64 c.wo, .int .i64 c.le, .int .i64 c.cl, .int .i64 c.ta, .int .i64 c.de, .int .i64 c.he, .int .i64 c.ba, .int .i64 c.ag, .int .i64 c.pa, .slice pa pn pc, .slice sa sn sc]
/-- The value v is a configuration that reads as c. -/
def IsCfg (w : World) (B : Nat) (v : Value) (c : Cfg) : Prop := ∃ pa pn pc sa sn sc, v = cv c pa pn pc sa sn sc ∧ Lists w B c pa pn sa sn

/-- What a call gives that makes memory alone. -/
def Gives (v : Value) (w : World) (e : Ending) (w' : World) : Prop := e = .returned v ∧ Below w.heap.size w w'

/-- The eleven cells of a configuration in a block. -/
structure Eleven (w : World) (g : Nat) (c : Cfg) (pa : Option Addr) (pn pc : Nat) (sa : Option Addr) (sn sc : Nat) : Prop where
  c0 : w.cell? ⟨g, 0, none⟩ = some (.int .i64 c.wo)
  c1 : w.cell? ⟨g, 1, none⟩ = some (.int .i64 c.le)
  c2 : w.cell? ⟨g, 2, none⟩ = some (.int .i64 c.cl)
  c3 : w.cell? ⟨g, 3, none⟩ = some (.int .i64 c.ta)
  c4 : w.cell? ⟨g, 4, none⟩ = some (.int .i64 c.de)
  c5 : w.cell? ⟨g, 5, none⟩ = some (.int .i64 c.he)
  c6 : w.cell? ⟨g, 6, none⟩ = some (.int .i64 c.ba)
  c7 : w.cell? ⟨g, 7, none⟩ = some (.int .i64 c.ag)
  c8 : w.cell? ⟨g, 8, none⟩ = some (.int .i64 c.pa)
  c9 : w.cell? ⟨g, 9, none⟩ = some (.slice pa pn pc)
  c10 : w.cell? ⟨g, 10, none⟩ = some (.slice sa sn sc)
theorem eleven {w : World} {g : Nat} {c : Cfg} {pa sa : Option Addr} {pn pc sn sc : Nat} (h : Blk w g 30 (cc c pa pn pc sa sn sc)) : Eleven w g c pa pn pc sa sn sc :=
  ⟨h.at_ 0, h.at_ 1, h.at_ 2, h.at_ 3, h.at_ 4, h.at_ 5, h.at_ 6, h.at_ 7, h.at_ 8, h.at_ 9, h.at_ 10⟩
end Go.Proofs.YtgipddeldddbnaaGreat
