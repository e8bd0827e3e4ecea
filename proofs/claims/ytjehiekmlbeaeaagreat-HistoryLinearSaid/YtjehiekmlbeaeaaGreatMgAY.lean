/-
  Slices of triples, slices of slices of triples and configurations, as the walks are told of them.
  Stage 11: plans and operations that came in, opened. (Written by gen_op11.py.)
-/
import Derived.Test.YtjehiekmlbeaeaaGreatCfMath
import Derived.Test.YtjehiekmlbeaeaaGreatMgAA
import Derived.Test.YtjehiekmlbeaeaaGreatMgAB
import Derived.Test.YtjehiekmlbeaeaaGreatMgAW
import Derived.WalkSpells
import Derived.WalkLawsBesides
import Derived.Lib.Hide
import Derived.Maps.AppendAt
import Derived.Deep.Slices
import Derived.Deep.OwnRows
import Derived.Deep.QuietTactic
import Derived.BigQuiet
import Derived.BigRegion
import Derived.Deep.RegionHeld3
import Derived.Deep.RegionLaw
import Derived.StillTailTactics
import Derived.Lib.SmallJoins
namespace Go.Proofs.YtjehiekmlbeaeaaGreat
open Go Go.RowKit

abbrev z3 : T3 := (0, 0, 0)

/-- The slice (a, n) reads as the triples l, in a block from B on. -/
def Tris (w : World) (B : Nat) (a : Option Addr) (n : Nat) (l : List T3) : Prop :=
  l.length = n ∧ n ≤ maxLen ∧ ∀ i, i < n → ∃ x : Addr, a = some x ∧ B ≤ x.block ∧ x.block < w.heap.size ∧ w.cell? (x.add (i * 3)) = some (.int .i64 (l.getD i z3).1) ∧ w.cell? (x.add (i * 3 + 1)) = some (.int .i64 (l.getD i z3).2.1) ∧ w.cell? (x.add (i * 3 + 2)) = some (.int .i64 (l.getD i z3).2.2)

theorem Tris.mono {w : World} {B B' : Nat} {a : Option Addr} {n : Nat} {l : List T3} (h : Tris w B a n l) (hb : B' ≤ B) : Tris w B' a n l :=
  ⟨h.1, h.2.1, fun i hi => by
    obtain ⟨x, e, hB, r⟩ := h.2.2 i hi
    exact ⟨x, e, Nat.le_trans hb hB, r⟩⟩
theorem Tris.below {w w' : World} {B : Nat} {a : Option Addr} {n : Nat} {l : List T3} (h : Tris w B a n l) (hb : Below w.heap.size w w') : Tris w' B a n l :=
  ⟨h.1, h.2.1, fun i hi => by
    obtain ⟨x, e, hB, hx, h0, h1, h2⟩ := h.2.2 i hi
    have hc : ∀ j, w'.cell? (x.add j) = w.cell? (x.add j) := fun j => hb.cell (by rw [block_add]; exact hx)
    exact ⟨x, e, hB, Nat.lt_of_lt_of_le hx hb.size, (hc _).trans h0, (hc _).trans h1, (hc _).trans h2⟩⟩
theorem tris_nil (w : World) (B : Nat) (a : Option Addr) : Tris w B a 0 [] := ⟨rfl, by omega, fun i hi => by omega⟩
theorem Tris.at_ {w : World} {B : Nat} {a : Option Addr} {n : Nat} {l : List T3} (h : Tris w B a n l) {i : Nat} (hi : i < n) :
    ∃ (x : Addr) (o p q : Int), a = some x ∧ l[i]? = some (o, p, q) ∧ B ≤ x.block ∧ x.block < w.heap.size ∧ w.cell? (x.add (i * 3)) = some (.int .i64 o) ∧ w.cell? ⟨(x.add (i * 3)).block, (x.add (i * 3)).off + 1, none⟩ = some (.int .i64 p) ∧ w.cell? ⟨(x.add (i * 3)).block, (x.add (i * 3)).off + 2, none⟩ = some (.int .i64 q) := by
  obtain ⟨x, e, hB, hx, h0, h1, h2⟩ := h.2.2 i hi
  have hl : i < l.length := by rw [h.1]; exact hi
  refine ⟨x, (l.getD i z3).1, (l.getD i z3).2.1, (l.getD i z3).2.2, e, ?_, hB, hx, h0, cell_field (i := i * 3) (j := 0) h1, cell_field (i := i * 3) (j := 1) h2⟩
  rw [List.getD_eq_getElem?_getD, List.getElem?_eq_getElem hl]
  rfl
/-- A store of a number leaves a slice of triples one. -/
theorem cell_put {w : World} {p q : Addr} {u v : Int} (h : w.cell? q = some (.int .i64 u)) : ∃ u', (w.setCell p (.int .i64 v)).cell? q = some (.int .i64 u') := by
  by_cases e : p = q
  · subst e
    exact ⟨v, World.cell?_setCell_same _ _ _ h⟩
  · exact ⟨u, by rw [World.cell?_setCell_other _ _ _ _ e]; exact h⟩
theorem list_of {α : Type} (d : α) (P : Nat → α → Prop) : ∀ n, (∀ i, i < n → ∃ e, P i e) → ∃ l : List α, l.length = n ∧ ∀ i, i < n → P i (l.getD i d)
  | 0, _ => ⟨[], rfl, fun i hi => by omega⟩
  | n + 1, h => by
    obtain ⟨l, hl, hp⟩ := list_of d P n (fun i hi => h i (by omega))
    obtain ⟨e, he⟩ := h n (by omega)
    refine ⟨l ++ [e], by simp [hl], fun i hi => ?_⟩
    by_cases hin : i < n
    · have e1 : (l ++ [e]).getD i d = l.getD i d := by
        rw [List.getD_eq_getElem?_getD, List.getD_eq_getElem?_getD, List.getElem?_append_left (by omega)]
      rw [e1]
      exact hp i hin
    · obtain rfl : i = n := by omega
      have e1 : (l ++ [e]).getD i d = e := by
        rw [List.getD_eq_getElem?_getD, List.getElem?_append_right (by omega), hl, Nat.sub_self]
        rfl
      rw [e1]
      exact he
theorem Tris.put {w : World} {B : Nat} {a : Option Addr} {n : Nat} {l : List T3} (h : Tris w B a n l) (p : Addr) (v : Int) : ∃ l', Tris (w.setCell p (.int .i64 v)) B a n l' := by
  obtain ⟨l', hl, hp⟩ := list_of z3 (fun i (e : T3) => ∃ x : Addr, a = some x ∧ B ≤ x.block ∧ x.block < (w.setCell p (.int .i64 v)).heap.size ∧ (w.setCell p (.int .i64 v)).cell? (x.add (i * 3)) = some (.int .i64 e.1) ∧ (w.setCell p (.int .i64 v)).cell? (x.add (i * 3 + 1)) = some (.int .i64 e.2.1) ∧ (w.setCell p (.int .i64 v)).cell? (x.add (i * 3 + 2)) = some (.int .i64 e.2.2)) n (fun i hi => by
    obtain ⟨x, e, hB, hx, h0, h1, h2⟩ := h.2.2 i hi
    obtain ⟨u0, g0⟩ := cell_put (p := p) (v := v) h0
    obtain ⟨u1, g1⟩ := cell_put (p := p) (v := v) h1
    obtain ⟨u2, g2⟩ := cell_put (p := p) (v := v) h2
    exact ⟨(u0, u1, u2), x, e, hB, by simpa [World.setCell] using hx, g0, g1, g2⟩)
  exact ⟨l', hl, h.2.1, hp⟩

/-- The slice (a, n) reads as the programs ps, all in blocks from B on. -/
def Prgs (w : World) (B : Nat) (a : Option Addr) (n : Nat) (ps : List (List T3)) : Prop :=
  ps.length = n ∧ n ≤ maxLen ∧ ∀ i, i < n → ∃ (x : Addr) (b : Option Addr) (m c : Nat), a = some x ∧ B ≤ x.block ∧ x.block < w.heap.size ∧ w.cell? (x.add i) = some (.slice b m c) ∧ Tris w B b m (ps.getD i [])
theorem Prgs.mono {w : World} {B B' : Nat} {a : Option Addr} {n : Nat} {ps : List (List T3)} (h : Prgs w B a n ps) (hb : B' ≤ B) : Prgs w B' a n ps :=
  ⟨h.1, h.2.1, fun i hi => by
    obtain ⟨x, b, m, c, e, hB, hx, h0, ht⟩ := h.2.2 i hi
    exact ⟨x, b, m, c, e, Nat.le_trans hb hB, hx, h0, ht.mono hb⟩⟩
theorem Prgs.below {w w' : World} {B : Nat} {a : Option Addr} {n : Nat} {ps : List (List T3)} (h : Prgs w B a n ps) (hb : Below w.heap.size w w') : Prgs w' B a n ps :=
  ⟨h.1, h.2.1, fun i hi => by
    obtain ⟨x, b, m, c, e, hB, hx, h0, ht⟩ := h.2.2 i hi
    exact ⟨x, b, m, c, e, hB, Nat.lt_of_lt_of_le hx hb.size, (hb.cell (by rw [block_add]; exact hx)).trans h0, ht.below hb⟩⟩
theorem prgs_nil (w : World) (B : Nat) (a : Option Addr) : Prgs w B a 0 [] := ⟨rfl, by omega, fun i hi => by omega⟩
theorem Prgs.at_ {w : World} {B : Nat} {a : Option Addr} {n : Nat} {ps : List (List T3)} (h : Prgs w B a n ps) {i : Nat} (hi : i < n) :
    ∃ (x : Addr) (b : Option Addr) (m c : Nat) (p : List T3), a = some x ∧ ps[i]? = some p ∧ B ≤ x.block ∧ x.block < w.heap.size ∧ w.cell? (x.add i) = some (.slice b m c) ∧ Tris w B b m p := by
  obtain ⟨x, b, m, c, e, hB, hx, h0, ht⟩ := h.2.2 i hi
  have hl : i < ps.length := by rw [h.1]; exact hi
  refine ⟨x, b, m, c, ps.getD i [], e, ?_, hB, hx, h0, ht⟩
  rw [List.getD_eq_getElem?_getD, List.getElem?_eq_getElem hl]
  rfl
/-- A store of a number where one was leaves programs programs. -/
theorem Prgs.put {w : World} {B : Nat} {a : Option Addr} {n : Nat} {ps : List (List T3)} (h : Prgs w B a n ps) {p : Addr} {u : Int} (hp : w.cell? p = some (.int .i64 u)) (v : Int) :
    ∃ ps', Prgs (w.setCell p (.int .i64 v)) B a n ps' ∧ ∀ i, (ps'.getD i []).length = (ps.getD i []).length := by
  obtain ⟨ps', hl, hh⟩ := list_of [] (fun i (e : List T3) => (e.length = (ps.getD i []).length) ∧ ∃ (x : Addr) (b : Option Addr) (m c : Nat), a = some x ∧ B ≤ x.block ∧ x.block < (w.setCell p (.int .i64 v)).heap.size ∧ (w.setCell p (.int .i64 v)).cell? (x.add i) = some (.slice b m c) ∧ Tris (w.setCell p (.int .i64 v)) B b m e) n (fun i hi => by
    obtain ⟨x, b, m, c, e, hB, hx, h0, ht⟩ := h.2.2 i hi
    obtain ⟨l', hl'⟩ := ht.put p v
    have hne : p ≠ x.add i := by
      intro e'
      subst e'
      rw [h0] at hp
      cases hp
    exact ⟨l', by rw [hl'.1, ht.1], x, b, m, c, e, hB, by simpa [World.setCell] using hx, by rw [World.cell?_setCell_other _ _ _ _ hne]; exact h0, hl'⟩)
  refine ⟨ps', ⟨hl, h.2.1, fun i hi => (hh i hi).2⟩, fun i => ?_⟩
  by_cases hi : i < n
  · exact (hh i hi).1
  · have e1 : ps'.getD i [] = [] := by rw [List.getD_eq_getElem?_getD, List.getElem?_eq_none (by omega)]; rfl
    have e2 : ps.getD i [] = [] := by rw [List.getD_eq_getElem?_getD, List.getElem?_eq_none (by have := h.1; omega)]; rfl
    rw [e1, e2]

/-- The slices (pa, pn) and (sa, sn) read as the lists of c. -/
structure Lists (w : World) (B : Nat) (c : Cfg) (pa : Option Addr) (pn : Nat) (sa : Option Addr) (sn : Nat) : Prop where
  pr : Prgs w B pa pn c.pr
  su : Tris w B sa sn c.su
theorem Lists.mono {w : World} {B B' : Nat} {c : Cfg} {pa sa : Option Addr} {pn sn : Nat} (h : Lists w B c pa pn sa sn) (hb : B' ≤ B) : Lists w B' c pa pn sa sn := ⟨h.pr.mono hb, h.su.mono hb⟩
theorem Lists.below {w w' : World} {B : Nat} {c : Cfg} {pa sa : Option Addr} {pn sn : Nat} (h : Lists w B c pa pn sa sn) (hb : Below w.heap.size w w') : Lists w' B c pa pn sa sn := ⟨h.pr.below hb, h.su.below hb⟩
theorem Lists.alloc {w : World} {B : Nat} {c : Cfg} {pa sa : Option Addr} {pn sn : Nat} (h : Lists w B c pa pn sa sn) (o : Obj) : Lists (w.alloc o) B c pa pn sa sn := h.below (below_one w o)
theorem Lists.drew {w : World} {B : Nat} {c : Cfg} {pa sa : Option Addr} {pn sn : Nat} (h : Lists w B c pa pn sa sn) : Lists w.drew B c pa pn sa sn := h.below (below_drew (Below.refl _ _))

/-- The value of a configuration. -/
abbrev cv (c : Cfg) (pa : Option Addr) (pn pc : Nat) (sa : Option Addr) (sn sc : Nat) : Value :=
  .agg #[.int .i64 c.wo, .int .i64 c.le, .int .i64 c.cl, .int .i64 c.ta, .int .i64 c.de, .int .i64 c.he, .int .i64 c.ba, .int .i64 c.ag, .int .i64 c.pa, .slice pa pn pc, .slice sa sn sc]
/-- Its cells. -/
abbrev cc (c : Cfg) (pa : Option Addr) (pn pc : Nat) (sa : Option Addr) (sn sc : Nat) : Array Value :=
  #[.int .i64 c.wo, .int .i64 c.le, .int .i64 c.cl, .int .i64 c.ta, .int .i64 c.de, .int .i64 c.he, .int .i64 c.ba, .int .i64 c.ag, .int .i64 c.pa, .slice pa pn pc, .slice sa sn sc]
/-- The value v is a configuration that reads as c. -/
def IsCfg (w : World) (B : Nat) (v : Value) (c : Cfg) : Prop := ∃ pa pn pc sa sn sc, v = cv c pa pn pc sa sn sc ∧ Lists w B c pa pn sa sn

/-- What a call gives that makes memory alone. -/
def Gives (v : Value) (w : World) (e : Ending) (w' : World) : Prop := e = .returned v ∧ Below w.heap.size w w'

/-- The eleven cells of a configuration in a block. -/
structure Eleven (w : World) (g : Nat) (c : Cfg) (pa : Option Addr) (pn pc : Nat) (sa : Option Addr) (sn sc : Nat) : Prop where
  c0 : w.cell? ⟨g, 0, none⟩ = some (.int .i64 c.wo)
  c1 : w.cell? ⟨g, 1, none⟩ = some (.int .i64 c.le)
  c2 : w.cell? ⟨g, 2, none⟩ = some (.int .i64 c.cl)
  c3 : w.cell? ⟨g, 3, none⟩ = some (.int .i64 c.ta)
  c4 : w.cell? ⟨g, 4, none⟩ = some (.int .i64 c.de)
  c5 : w.cell? ⟨g, 5, none⟩ = some (.int .i64 c.he)
  c6 : w.cell? ⟨g, 6, none⟩ = some (.int .i64 c.ba)
  c7 : w.cell? ⟨g, 7, none⟩ = some (.int .i64 c.ag)
  c8 : w.cell? ⟨g, 8, none⟩ = some (.int .i64 c.pa)
  c9 : w.cell? ⟨g, 9, none⟩ = some (.slice pa pn pc)
  c10 : w.cell? ⟨g, 10, none⟩ = some (.slice sa sn sc)
theorem eleven {w : World} {g : Nat} {c : Cfg} {pa sa : Option Addr} {pn pc sn sc : Nat} (h : Blk w g 29 (cc c pa pn pc sa sn sc)) : Eleven w g c pa pn pc sa sn sc :=
  ⟨h.at_ 0, h.at_ 1, h.at_ 2, h.at_ 3, h.at_ 4, h.at_ 5, h.at_ 6, h.at_ 7, h.at_ 8, h.at_ 9, h.at_ 10⟩
end Go.Proofs.YtjehiekmlbeaeaaGreat

namespace Go.Proofs.YtjehiekmlbeaeaaGreat
open Go Go.ChangeShapes Go.WideShapes Go.ChangeAt Go.RowKit Go.Joins
set_option linter.unusedSimpArgs false
set_option linter.unusedVariables false

set_option maxRecDepth 100000 in
theorem acts_in {H : Type} {enc : TypeId × Value → H} {w : World} {base : Nat} {spare : Nat → Bool} {held : Bool} {fuel : Nat} {cs0 : List Value} {y : DataW H × List MemPlace}
    (hf : DataW.trod enc Tryz.prog w base spare held fuel 136 cs0 = some y) : ∃ (a : Option Addr) (n c : Nat) (l : List ActR), cs0 = [.slice a n c] ∧ l.length = n ∧ n ≤ c ∧ (a = none → c = 0) ∧ InG w 2 a (l.map actL) ∧ ∀ i, i < n → (-9223372036854775808 ≤ (l.getD i ⟨0, 0⟩).v ∧ (l.getD i ⟨0, 0⟩).v ≤ 9223372036854775807) := by
  rcases Go.Deep.open_slice Tryz.underlying136 hf with ⟨hcs, _⟩ | ⟨x, l, c', m, f, D, Pl, hcs, _, hl, hm, hmm, _, hi⟩
  · exact ⟨none, 0, 0, [], hcs, rfl, Nat.le_refl _, fun _ => rfl, InG.nil _ _ _, fun i hi => absurd hi (by omega)⟩
  · have hnm : l ≤ m := by rw [hmm]; split <;> omega
    have each : ∀ i, i < l → ∃ e : ActR, (x.block < w.heap.size ∧ ∀ j, j < 2 → w.cell? (x.add (i * 2 + j)) = (actL e)[j]?) ∧ (-9223372036854775808 ≤ e.v ∧ e.v ≤ 9223372036854775807) := by
      intro i hin
      obtain ⟨cs', hc, ht⟩ := hi i (by omega)
      have c2 : Tryz.prog.cellsOf 138 = 2 := by kernel_rfl
      have cI : Tryz.prog.cellsOf 3 = 1 := by kernel_rfl
      rw [c2] at hc
      obtain ⟨_, hlen, hat⟩ := World.cells?_some hc
      obtain ⟨xs, f', _, _, _, hxs, hfs⟩ := DataW.trod_struct Tryz.underlying138 ht
      match cs', hlen with
      | [y0, y1], _ =>
        have g0 : DataW.trod enc Tryz.prog w base spare held f' 3 (([y0, y1].drop 0).take (Tryz.prog.cellsOf 3)) = xs[0]? := hfs 0 _ rfl
        have g1 : DataW.trod enc Tryz.prog w base spare held f' 3 (([y0, y1].drop 1).take (Tryz.prog.cellsOf 3)) = xs[1]? := hfs 1 _ rfl
        rw [cI] at g0 g1
        match xs, hxs with
        | [z0, z1], _ =>
          obtain ⟨x0, e0, _, q0⟩ := DataW.trod_int Tryz.underlying3 (x := z0) g0
          obtain ⟨x1, e1, _, q1⟩ := DataW.trod_int Tryz.underlying3 (x := z1) g1
          simp at e0 e1
          subst e0 e1
          have a0 := hat 0 (by omega)
          have a1 := hat 1 (by omega)
          rw [Go.Deep.add_add] at a0 a1
          refine ⟨⟨x0, x1⟩, ⟨?_, fun j hj => ?_⟩, i64_in q1⟩
          · have := World.block_lt_of_cell? w _ a0
            rwa [show (x.add (i * 2 + 0)).block = x.block by unfold Addr.add; split <;> rfl] at this
          · match j, hj with
            | 0, _ => exact a0
            | 1, _ => exact a1
    obtain ⟨es, hes, hp⟩ := list_of (⟨0, 0⟩ : ActR) _ l each
    refine ⟨_, _, _, es, hcs, hes, hl, (fun e => by cases e), ⟨by rw [List.length_map]; omega, (fun r hr => by obtain ⟨q, _, rfl⟩ := List.mem_map.1 hr; exact actL_ok q), fun i hi => ⟨x, rfl, ?_⟩⟩, fun i hi => (hp i hi).2⟩
    rw [List.length_map, hes] at hi
    obtain ⟨⟨h1, h2⟩, _⟩ := hp i hi
    have e1 : (es.map actL).getD i [] = actL (es.getD i ⟨0, 0⟩) := by
      rw [List.getD_eq_getElem?_getD, List.getD_eq_getElem?_getD, List.getElem?_map, List.getElem?_eq_getElem (by rw [hes]; exact hi)]
      rfl
    refine ⟨h1, fun j hj => ?_⟩
    rw [h2 j hj, e1]
set_option maxRecDepth 100000 in
theorem ops_in {H : Type} {enc : TypeId × Value → H} {w : World} {base : Nat} {spare : Nat → Bool} {held : Bool} {fuel : Nat} {cs0 : List Value} {y : DataW H × List MemPlace}
    (hf : DataW.trod enc Tryz.prog w base spare held fuel 74 cs0 = some y) : ∃ (a : Option Addr) (n c : Nat) (l : List OpR), cs0 = [.slice a n c] ∧ l.length = n ∧ n ≤ c ∧ (a = none → c = 0) ∧ InG w 6 a (l.map opL) ∧ ∀ i, i < n → (-9223372036854775808 ≤ (l.getD i .zero).k ∧ (l.getD i .zero).k ≤ 9223372036854775807) ∧ (-9223372036854775808 ≤ (l.getD i .zero).m ∧ (l.getD i .zero).m ≤ 9223372036854775807) ∧ (-9223372036854775808 ≤ (l.getD i .zero).a ∧ (l.getD i .zero).a ≤ 9223372036854775807) ∧ (-9223372036854775808 ≤ (l.getD i .zero).b ∧ (l.getD i .zero).b ≤ 9223372036854775807) ∧ (-9223372036854775808 ≤ (l.getD i .zero).c ∧ (l.getD i .zero).c ≤ 9223372036854775807) ∧ (-9223372036854775808 ≤ (l.getD i .zero).v ∧ (l.getD i .zero).v ≤ 9223372036854775807) := by
  rcases Go.Deep.open_slice Tryz.underlying74 hf with ⟨hcs, _⟩ | ⟨x, l, c', m, f, D, Pl, hcs, _, hl, hm, hmm, _, hi⟩
  · exact ⟨none, 0, 0, [], hcs, rfl, Nat.le_refl _, fun _ => rfl, InG.nil _ _ _, fun i hi => absurd hi (by omega)⟩
  · have hnm : l ≤ m := by rw [hmm]; split <;> omega
    have each : ∀ i, i < l → ∃ e : OpR, (x.block < w.heap.size ∧ ∀ j, j < 6 → w.cell? (x.add (i * 6 + j)) = (opL e)[j]?) ∧ (-9223372036854775808 ≤ e.k ∧ e.k ≤ 9223372036854775807) ∧ (-9223372036854775808 ≤ e.m ∧ e.m ≤ 9223372036854775807) ∧ (-9223372036854775808 ≤ e.a ∧ e.a ≤ 9223372036854775807) ∧ (-9223372036854775808 ≤ e.b ∧ e.b ≤ 9223372036854775807) ∧ (-9223372036854775808 ≤ e.c ∧ e.c ≤ 9223372036854775807) ∧ (-9223372036854775808 ≤ e.v ∧ e.v ≤ 9223372036854775807) := by
      intro i hin
      obtain ⟨cs', hc, ht⟩ := hi i (by omega)
      have c2 : Tryz.prog.cellsOf 80 = 6 := by kernel_rfl
      have cI : Tryz.prog.cellsOf 3 = 1 := by kernel_rfl
      rw [c2] at hc
      obtain ⟨_, hlen, hat⟩ := World.cells?_some hc
      obtain ⟨xs, f', _, _, _, hxs, hfs⟩ := DataW.trod_struct Tryz.underlying80 ht
      match cs', hlen with
      | [y0, y1, y2, y3, y4, y5], _ =>
        have g0 : DataW.trod enc Tryz.prog w base spare held f' 3 (([y0, y1, y2, y3, y4, y5].drop 0).take (Tryz.prog.cellsOf 3)) = xs[0]? := hfs 0 _ rfl
        have g1 : DataW.trod enc Tryz.prog w base spare held f' 3 (([y0, y1, y2, y3, y4, y5].drop 1).take (Tryz.prog.cellsOf 3)) = xs[1]? := hfs 1 _ rfl
        have g2 : DataW.trod enc Tryz.prog w base spare held f' 3 (([y0, y1, y2, y3, y4, y5].drop 2).take (Tryz.prog.cellsOf 3)) = xs[2]? := hfs 2 _ rfl
        have g3 : DataW.trod enc Tryz.prog w base spare held f' 3 (([y0, y1, y2, y3, y4, y5].drop 3).take (Tryz.prog.cellsOf 3)) = xs[3]? := hfs 3 _ rfl
        have g4 : DataW.trod enc Tryz.prog w base spare held f' 3 (([y0, y1, y2, y3, y4, y5].drop 4).take (Tryz.prog.cellsOf 3)) = xs[4]? := hfs 4 _ rfl
        have g5 : DataW.trod enc Tryz.prog w base spare held f' 3 (([y0, y1, y2, y3, y4, y5].drop 5).take (Tryz.prog.cellsOf 3)) = xs[5]? := hfs 5 _ rfl
        rw [cI] at g0 g1 g2 g3 g4 g5
        match xs, hxs with
        | [z0, z1, z2, z3, z4, z5], _ =>
          obtain ⟨x0, e0, _, q0⟩ := DataW.trod_int Tryz.underlying3 (x := z0) g0
          obtain ⟨x1, e1, _, q1⟩ := DataW.trod_int Tryz.underlying3 (x := z1) g1
          obtain ⟨x2, e2, _, q2⟩ := DataW.trod_int Tryz.underlying3 (x := z2) g2
          obtain ⟨x3, e3, _, q3⟩ := DataW.trod_int Tryz.underlying3 (x := z3) g3
          obtain ⟨x4, e4, _, q4⟩ := DataW.trod_int Tryz.underlying3 (x := z4) g4
          obtain ⟨x5, e5, _, q5⟩ := DataW.trod_int Tryz.underlying3 (x := z5) g5
          simp at e0 e1 e2 e3 e4 e5
          subst e0 e1 e2 e3 e4 e5
          have a0 := hat 0 (by omega)
          have a1 := hat 1 (by omega)
          have a2 := hat 2 (by omega)
          have a3 := hat 3 (by omega)
          have a4 := hat 4 (by omega)
          have a5 := hat 5 (by omega)
          rw [Go.Deep.add_add] at a0 a1 a2 a3 a4 a5
          refine ⟨⟨x0, x1, x2, x3, x4, x5⟩, ⟨?_, fun j hj => ?_⟩, i64_in q0, i64_in q1, i64_in q2, i64_in q3, i64_in q4, i64_in q5⟩
          · have := World.block_lt_of_cell? w _ a0
            rwa [show (x.add (i * 6 + 0)).block = x.block by unfold Addr.add; split <;> rfl] at this
          · match j, hj with
            | 0, _ => exact a0
            | 1, _ => exact a1
            | 2, _ => exact a2
            | 3, _ => exact a3
            | 4, _ => exact a4
            | 5, _ => exact a5
    obtain ⟨es, hes, hp⟩ := list_of (.zero : OpR) _ l each
    refine ⟨_, _, _, es, hcs, hes, hl, (fun e => by cases e), ⟨by rw [List.length_map]; omega, (fun r hr => by obtain ⟨q, _, rfl⟩ := List.mem_map.1 hr; exact opL_ok q), fun i hi => ⟨x, rfl, ?_⟩⟩, fun i hi => (hp i hi).2⟩
    rw [List.length_map, hes] at hi
    obtain ⟨⟨h1, h2⟩, _⟩ := hp i hi
    have e1 : (es.map opL).getD i [] = opL (es.getD i .zero) := by
      rw [List.getD_eq_getElem?_getD, List.getD_eq_getElem?_getD, List.getElem?_map, List.getElem?_eq_getElem (by rw [hes]; exact hi)]
      rfl
    refine ⟨h1, fun j hj => ?_⟩
    rw [h2 j hj, e1]

/-- A plan that came in. -/
def CamePl (w : World) (a : Option Addr) (plan : List (List ActR)) : Prop :=
  ∀ i, i < plan.length → ∃ (x : Addr) (va : Option Addr) (vc : Nat), a = some x ∧ x.block < w.heap.size ∧ w.cell? (x.add i) = some (.slice va (plan.getD i []).length vc) ∧ InG w 2 va ((plan.getD i []).map actL) ∧ ∀ j, j < (plan.getD i []).length → -9223372036854775808 ≤ ((plan.getD i []).getD j ⟨0, 0⟩).v ∧ ((plan.getD i []).getD j ⟨0, 0⟩).v ≤ 9223372036854775807
theorem CamePl.below {w w' : World} {a : Option Addr} {plan : List (List ActR)} (h : CamePl w a plan) (hb : Below w.heap.size w w') : CamePl w' a plan := fun i hi => by
  obtain ⟨x, va, vc, e, hx, hc, hg, hv⟩ := h i hi
  exact ⟨x, va, vc, e, Nat.lt_of_lt_of_le hx hb.size, (hb.cell (by rw [block_add]; exact hx)).trans hc, hg.below hb, hv⟩
set_option maxRecDepth 100000 in
theorem open_plan {H : Type} {enc : TypeId × Value → H} {w : World} {base b0 : Nat} {spare : Nat → Bool} {held : Bool} {r : Reach} {v : Value} {d : DataW H} {p : List MemPlace}
    (hv : Value.okWide Tryz.prog w r b0 69 v) (h : DataW.Trod enc Tryz.prog w base spare held 69 v d p) :
    ∃ (a : Option Addr) (n c : Nat) (l : List (List ActR)), v = .slice a n c ∧ l.length = n ∧ n ≤ maxLen ∧ CamePl w a l := by
  obtain ⟨a, n, c, rfl⟩ := okWide_slice Tryz.underlying69 hv
  obtain ⟨fuel, hf⟩ := h
  have c1 : Tryz.prog.cellsOf 136 = 1 := by kernel_rfl
  rcases Go.Deep.open_slice1 Tryz.underlying69 c1 hf with ⟨hcs, _⟩ | ⟨x, l, c', m, f, V, D, Pl, hcs, _, hl, hm, hmm, _, hi⟩
  · simp [Value.cells] at hcs
    obtain ⟨rfl, rfl, rfl⟩ := hcs
    exact ⟨_, _, _, [], rfl, rfl, by unfold maxLen; omega, fun i hi => absurd hi (by simp)⟩
  · simp [Value.cells] at hcs
    obtain ⟨rfl, rfl, rfl⟩ := hcs
    have hnm : n ≤ m := by rw [hmm]; split <;> omega
    have each : ∀ i, i < n → ∃ q : List ActR, ∃ (va : Option Addr) (vc : Nat), x.block < w.heap.size ∧ w.cell? (x.add i) = some (.slice va q.length vc) ∧ InG w 2 va (q.map actL) ∧ ∀ j, j < q.length → -9223372036854775808 ≤ (q.getD j ⟨0, 0⟩).v ∧ (q.getD j ⟨0, 0⟩).v ≤ 9223372036854775807 := by
      intro i hin
      obtain ⟨hc, ht⟩ := hi i (by omega)
      obtain ⟨b, k, c, q, e, hk, _, _, hp, hq⟩ := acts_in ht
      simp at e
      rw [e] at hc
      subst hk
      refine ⟨q, b, c, ?_, hc, hp, hq⟩
      have := World.block_lt_of_cell? w _ hc
      rwa [block_add] at this
    obtain ⟨es, hes, hp⟩ := list_of [] _ n each
    refine ⟨_, _, _, es, rfl, hes, by omega, fun i hi => ?_⟩
    obtain ⟨va, vc, h1, h2, h3, h4⟩ := hp i (by omega)
    exact ⟨x, va, vc, rfl, h1, h2, h3, h4⟩
set_option maxRecDepth 100000 in
theorem open_ops {H : Type} {enc : TypeId × Value → H} {w : World} {base b0 : Nat} {spare : Nat → Bool} {held : Bool} {r : Reach} {v : Value} {d : DataW H} {p : List MemPlace}
    (hv : Value.okWide Tryz.prog w r b0 74 v) (h : DataW.Trod enc Tryz.prog w base spare held 74 v d p) :
    ∃ (a : Option Addr) (n c : Nat) (l : List OpR), v = .slice a n c ∧ l.length = n ∧ n ≤ c ∧ InOp w a l ∧ ∀ i, i < n → (-9223372036854775808 ≤ (l.getD i .zero).k ∧ (l.getD i .zero).k ≤ 9223372036854775807) ∧ (-9223372036854775808 ≤ (l.getD i .zero).m ∧ (l.getD i .zero).m ≤ 9223372036854775807) ∧ (-9223372036854775808 ≤ (l.getD i .zero).a ∧ (l.getD i .zero).a ≤ 9223372036854775807) ∧ (-9223372036854775808 ≤ (l.getD i .zero).b ∧ (l.getD i .zero).b ≤ 9223372036854775807) ∧ (-9223372036854775808 ≤ (l.getD i .zero).c ∧ (l.getD i .zero).c ≤ 9223372036854775807) ∧ (-9223372036854775808 ≤ (l.getD i .zero).v ∧ (l.getD i .zero).v ≤ 9223372036854775807) := by
  obtain ⟨a, n, c, rfl⟩ := okWide_slice Tryz.underlying74 hv
  obtain ⟨fuel, hf⟩ := h
  obtain ⟨a2, n2, c2, l, e, h1, h2, h3, h4, h5⟩ := ops_in hf
  simp [Value.cells] at e
  obtain ⟨rfl, rfl, rfl⟩ := e
  exact ⟨_, _, _, l, rfl, h1, h2, h4, h5⟩
end Go.Proofs.YtjehiekmlbeaeaaGreat
