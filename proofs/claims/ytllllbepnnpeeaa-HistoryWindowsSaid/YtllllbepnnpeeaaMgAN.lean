/-
  Words for opening a law's arguments, whatever their types.
  Slices of triples, slices of slices of triples and configurations, as the walks are told of them.
  The reference's environment: its cells. No function is named. (Written by wip/gen_env.py.)
  Rows of the call's own: of triples, of programs; appending to them.
-/
import Derived.Test.YtllllbepnnpeeaaRows
import Derived.WalkKit
import Derived.ProofKit
import Derived.OpenShut
import Derived.ShutString
import Derived.ChangeOld
import Derived.Deep.Slices
import Derived.Deep.Fields
import Derived.Test.YtllllbepnnpeeaaCfMath
import Derived.Test.YtllllbepnnpeeaaMgAA
import Derived.Test.YtllllbepnnpeeaaMgAB
import Derived.WalkSpells
import Derived.WalkLawsBesides
import Derived.Lib.Hide
import Derived.Maps.AppendAt
import Derived.Deep.OwnRows
import Derived.Deep.QuietTactic
import Derived.BigQuiet
import Derived.BigRegion
import Derived.Deep.RegionHeld3
import Derived.Deep.RegionLaw
import Derived.StillTailTactics
namespace Go.Proofs.Ytllllbepnnpeeaa
open Go Go.ChangeShapes Go.WideShapes Go.ChangeAt Go.RowKit

theorem ownKnobs : ownKnob Try.prog.godebug = none := by kernel_rfl
theorem laidOut : laidOutB Try.prog = true := by kernel_rfl

theorem u64_nat {a : Int} (h : (Lit.int .u64 a).wf = true) : ∃ x : Nat, a = (x : Int) ∧ x < 18446744073709551616 := by
  simp only [Lit.wf, Bool.and_eq_true, decide_eq_true_eq] at h
  have h0 : IntKind.u64.min = 0 := rfl
  have h1 : IntKind.u64.max = 18446744073709551615 := rfl
  rw [h0, h1] at h
  exact ⟨a.toNat, by omega, by omega⟩

theorem i64_in {a : Int} (h : (Lit.int .i64 a).wf = true) : -9223372036854775808 ≤ a ∧ a ≤ 9223372036854775807 := by
  simp only [Lit.wf, Bool.and_eq_true, decide_eq_true_eq] at h
  have h0 : IntKind.i64.min = -9223372036854775808 := rfl
  have h1 : IntKind.i64.max = 9223372036854775807 := rfl
  rw [h0, h1] at h
  exact h

theorem u8_in {a : Int} (h : (Lit.int .u8 a).wf = true) : 0 ≤ a ∧ a ≤ 255 := by
  simp only [Lit.wf, Bool.and_eq_true, decide_eq_true_eq] at h
  have h0 : IntKind.u8.min = 0 := rfl
  have h1 : IntKind.u8.max = 255 := rfl
  rw [h0, h1] at h
  exact h
end Go.Proofs.Ytllllbepnnpeeaa

namespace Go.Proofs.Ytllllbepnnpeeaa
open Go Go.RowKit

abbrev z3 : T3 := (0, 0, 0)

/-- The slice (a, n) reads as the triples l, in a block from B on. -/
def Tris (w : World) (B : Nat) (a : Option Addr) (n : Nat) (l : List T3) : Prop :=
  l.length = n ∧ n ≤ maxLen ∧ ∀ i, i < n → ∃ x : Addr, a = some x ∧ B ≤ x.block ∧ x.block < w.heap.size ∧ w.cell? (x.add (i * 3)) = some (.int .i64 (l.getD i z3).1) ∧ w.cell? (x.add (i * 3 + 1)) = some (.int .i64 (l.getD i z3).2.1) ∧ w.cell? (x.add (i * 3 + 2)) = some (.int .i64 (l.getD i z3).2.2)

theorem Tris.mono {w : World} {B B' : Nat} {a : Option Addr} {n : Nat} {l : List T3} (h : Tris w B a n l) (hb : B' ≤ B) : Tris w B' a n l :=
  ⟨h.1, h.2.1, fun i hi => by
    obtain ⟨x, e, hB, r⟩ := h.2.2 i hi
    exact ⟨x, e, Nat.le_trans hb hB, r⟩⟩
theorem Tris.below {w w' : World} {B : Nat} {a : Option Addr} {n : Nat} {l : List T3} (h : Tris w B a n l) (hb : Below w.heap.size w w') : Tris w' B a n l :=
  ⟨h.1, h.2.1, fun i hi => by
    obtain ⟨x, e, hB, hx, h0, h1, h2⟩ := h.2.2 i hi
    have hc : ∀ j, w'.cell? (x.add j) = w.cell? (x.add j) := fun j => hb.cell (by rw [block_add]; exact hx)
    exact ⟨x, e, hB, Nat.lt_of_lt_of_le hx hb.size, (hc _).trans h0, (hc _).trans h1, (hc _).trans h2⟩⟩
theorem tris_nil (w : World) (B : Nat) (a : Option Addr) : Tris w B a 0 [] := ⟨rfl, by omega, fun i hi => by omega⟩
theorem Tris.at_ {w : World} {B : Nat} {a : Option Addr} {n : Nat} {l : List T3} (h : Tris w B a n l) {i : Nat} (hi : i < n) :
    ∃ (x : Addr) (o p q : Int), a = some x ∧ l[i]? = some (o, p, q) ∧ B ≤ x.block ∧ x.block < w.heap.size ∧ w.cell? (x.add (i * 3)) = some (.int .i64 o) ∧ w.cell? ⟨(x.add (i * 3)).block, (x.add (i * 3)).off + 1, none⟩ = some (.int .i64 p) ∧ w.cell? ⟨(x.add (i * 3)).block, (x.add (i * 3)).off + 2, none⟩ = some (.int .i64 q) := by
  obtain ⟨x, e, hB, hx, h0, h1, h2⟩ := h.2.2 i hi
  have hl : i < l.length := by rw [h.1]; exact hi
  refine ⟨x, (l.getD i z3).1, (l.getD i z3).2.1, (l.getD i z3).2.2, e, ?_, hB, hx, h0, cell_field (i := i * 3) (j := 0) h1, cell_field (i := i * 3) (j := 1) h2⟩
  rw [List.getD_eq_getElem?_getD, List.getElem?_eq_getElem hl]
  rfl
/-- A store of a number leaves a slice of triples one. -/
theorem cell_put {w : World} {p q : Addr} {u v : Int} (h : w.cell? q = some (.int .i64 u)) : ∃ u', (w.setCell p (.int .i64 v)).cell? q = some (.int .i64 u') := by
  by_cases e : p = q
  · subst e
    exact ⟨v, World.cell?_setCell_same _ _ _ h⟩
  · exact ⟨u, by rw [World.cell?_setCell_other _ _ _ _ e]; exact h⟩
theorem list_of {α : Type} (d : α) (P : Nat → α → Prop) : ∀ n, (∀ i, i < n → ∃ e, P i e) → ∃ l : List α, l.length = n ∧ ∀ i, i < n → P i (l.getD i d)
  | 0, _ => ⟨[], rfl, fun i hi => by omega⟩
  | n + 1, h => by
    obtain ⟨l, hl, hp⟩ := list_of d P n (fun i hi => h i (by omega))
    obtain ⟨e, he⟩ := h n (by omega)
    refine ⟨l ++ [e], by simp [hl], fun i hi => ?_⟩
    by_cases hin : i < n
    · have e1 : (l ++ [e]).getD i d = l.getD i d := by
        rw [List.getD_eq_getElem?_getD, List.getD_eq_getElem?_getD, List.getElem?_append_left (by omega)]
      rw [e1]
      exact hp i hin
    · obtain rfl : i = n := by omega
      have e1 : (l ++ [e]).getD i d = e := by
        rw [List.getD_eq_getElem?_getD, List.getElem?_append_right (by omega), hl, Nat.sub_self]
        rfl
      rw [e1]
      exact he
theorem Tris.put {w : World} {B : Nat} {a : Option Addr} {n : Nat} {l : List T3} (h : Tris w B a n l) (p : Addr) (v : Int) : ∃ l', Tris (w.setCell p (.int .i64 v)) B a n l' := by
  obtain ⟨l', hl, hp⟩ := list_of z3 (fun i (e : T3) => ∃ x : Addr, a = some x ∧ B ≤ x.block ∧ x.block < (w.setCell p (.int .i64 v)).heap.size ∧ (w.setCell p (.int .i64 v)).cell? (x.add (i * 3)) = some (.int .i64 e.1) ∧ (w.setCell p (.int .i64 v)).cell? (x.add (i * 3 + 1)) = some (.int .i64 e.2.1) ∧ (w.setCell p (.int .i64 v)).cell? (x.add (i * 3 + 2)) = some (.int .i64 e.2.2)) n (fun i hi => by
    obtain ⟨x, e, hB, hx, h0, h1, h2⟩ := h.2.2 i hi
    obtain ⟨u0, g0⟩ := cell_put (p := p) (v := v) h0
    obtain ⟨u1, g1⟩ := cell_put (p := p) (v := v) h1
    obtain ⟨u2, g2⟩ := cell_put (p := p) (v := v) h2
    exact ⟨(u0, u1, u2), x, e, hB, by simpa [World.setCell] using hx, g0, g1, g2⟩)
  exact ⟨l', hl, h.2.1, hp⟩

/-- The slice (a, n) reads as the programs ps, all in blocks from B on. -/
def Prgs (w : World) (B : Nat) (a : Option Addr) (n : Nat) (ps : List (List T3)) : Prop :=
  ps.length = n ∧ n ≤ maxLen ∧ ∀ i, i < n → ∃ (x : Addr) (b : Option Addr) (m c : Nat), a = some x ∧ B ≤ x.block ∧ x.block < w.heap.size ∧ w.cell? (x.add i) = some (.slice b m c) ∧ Tris w B b m (ps.getD i [])
theorem Prgs.mono {w : World} {B B' : Nat} {a : Option Addr} {n : Nat} {ps : List (List T3)} (h : Prgs w B a n ps) (hb : B' ≤ B) : Prgs w B' a n ps :=
  ⟨h.1, h.2.1, fun i hi => by
    obtain ⟨x, b, m, c, e, hB, hx, h0, ht⟩ := h.2.2 i hi
    exact ⟨x, b, m, c, e, Nat.le_trans hb hB, hx, h0, ht.mono hb⟩⟩
theorem Prgs.below {w w' : World} {B : Nat} {a : Option Addr} {n : Nat} {ps : List (List T3)} (h : Prgs w B a n ps) (hb : Below w.heap.size w w') : Prgs w' B a n ps :=
  ⟨h.1, h.2.1, fun i hi => by
    obtain ⟨x, b, m, c, e, hB, hx, h0, ht⟩ := h.2.2 i hi
    exact ⟨x, b, m, c, e, hB, Nat.lt_of_lt_of_le hx hb.size, (hb.cell (by rw [block_add]; exact hx)).trans h0, ht.below hb⟩⟩
theorem prgs_nil (w : World) (B : Nat) (a : Option Addr) : Prgs w B a 0 [] := ⟨rfl, by omega, fun i hi => by omega⟩
theorem Prgs.at_ {w : World} {B : Nat} {a : Option Addr} {n : Nat} {ps : List (List T3)} (h : Prgs w B a n ps) {i : Nat} (hi : i < n) :
    ∃ (x : Addr) (b : Option Addr) (m c : Nat) (p : List T3), a = some x ∧ ps[i]? = some p ∧ B ≤ x.block ∧ x.block < w.heap.size ∧ w.cell? (x.add i) = some (.slice b m c) ∧ Tris w B b m p := by
  obtain ⟨x, b, m, c, e, hB, hx, h0, ht⟩ := h.2.2 i hi
  have hl : i < ps.length := by rw [h.1]; exact hi
  refine ⟨x, b, m, c, ps.getD i [], e, ?_, hB, hx, h0, ht⟩
  rw [List.getD_eq_getElem?_getD, List.getElem?_eq_getElem hl]
  rfl
/-- A store of a number where one was leaves programs programs. -/
theorem Prgs.put {w : World} {B : Nat} {a : Option Addr} {n : Nat} {ps : List (List T3)} (h : Prgs w B a n ps) {p : Addr} {u : Int} (hp : w.cell? p = some (.int .i64 u)) (v : Int) :
    ∃ ps', Prgs (w.setCell p (.int .i64 v)) B a n ps' ∧ ∀ i, (ps'.getD i []).length = (ps.getD i []).length := by
  obtain ⟨ps', hl, hh⟩ := list_of [] (fun i (e : List T3) => (e.length = (ps.getD i []).length) ∧ ∃ (x : Addr) (b : Option Addr) (m c : Nat), a = some x ∧ B ≤ x.block ∧ x.block < (w.setCell p (.int .i64 v)).heap.size ∧ (w.setCell p (.int .i64 v)).cell? (x.add i) = some (.slice b m c) ∧ Tris (w.setCell p (.int .i64 v)) B b m e) n (fun i hi => by
    obtain ⟨x, b, m, c, e, hB, hx, h0, ht⟩ := h.2.2 i hi
    obtain ⟨l', hl'⟩ := ht.put p v
    have hne : p ≠ x.add i := by
      intro e'
      subst e'
      rw [h0] at hp
      cases hp
    exact ⟨l', by rw [hl'.1, ht.1], x, b, m, c, e, hB, by simpa [World.setCell] using hx, by rw [World.cell?_setCell_other _ _ _ _ hne]; exact h0, hl'⟩)
  refine ⟨ps', ⟨hl, h.2.1, fun i hi => (hh i hi).2⟩, fun i => ?_⟩
  by_cases hi : i < n
  · exact (hh i hi).1
  · have e1 : ps'.getD i [] = [] := by rw [List.getD_eq_getElem?_getD, List.getElem?_eq_none (by omega)]; rfl
    have e2 : ps.getD i [] = [] := by rw [List.getD_eq_getElem?_getD, List.getElem?_eq_none (by have := h.1; omega)]; rfl
    rw [e1, e2]

/-- The slices (pa, pn) and (sa, sn) read as the lists of c. -/
structure Lists (w : World) (B : Nat) (c : Cfg) (pa : Option Addr) (pn : Nat) (sa : Option Addr) (sn : Nat) : Prop where
  pr : Prgs w B pa pn c.pr
  su : Tris w B sa sn c.su
theorem Lists.mono {w : World} {B B' : Nat} {c : Cfg} {pa sa : Option Addr} {pn sn : Nat} (h : Lists w B c pa pn sa sn) (hb : B' ≤ B) : Lists w B' c pa pn sa sn := ⟨h.pr.mono hb, h.su.mono hb⟩
theorem Lists.below {w w' : World} {B : Nat} {c : Cfg} {pa sa : Option Addr} {pn sn : Nat} (h : Lists w B c pa pn sa sn) (hb : Below w.heap.size w w') : Lists w' B c pa pn sa sn := ⟨h.pr.below hb, h.su.below hb⟩
theorem Lists.alloc {w : World} {B : Nat} {c : Cfg} {pa sa : Option Addr} {pn sn : Nat} (h : Lists w B c pa pn sa sn) (o : Obj) : Lists (w.alloc o) B c pa pn sa sn := h.below (below_one w o)
theorem Lists.drew {w : World} {B : Nat} {c : Cfg} {pa sa : Option Addr} {pn sn : Nat} (h : Lists w B c pa pn sa sn) : Lists w.drew B c pa pn sa sn := h.below (below_drew (Below.refl _ _))

/-- The value of a configuration. -/
abbrev cv (c : Cfg) (pa : Option Addr) (pn pc : Nat) (sa : Option Addr) (sn sc : Nat) : Value :=
  .agg #[.int .i64 c.wo, .int .i64 c.le, .int .i64 c.cl, .int .i64 c.ta, .int .i64 c.de, .int .i64 c.he, .int .i64 c.ba, .int .i64 c.ag, .int .i64 c.pa, .slice pa pn pc, .slice sa sn sc]
/-- Its cells. -/
abbrev cc (c : Cfg) (pa : Option Addr) (pn pc : Nat) (sa : Option Addr) (sn sc : Nat) : Array Value :=
  #[.int .i64 c.wo, .int .i64 c.le, .int .i64 c.cl, .int .i64 c.ta, .int .i64 c.de, .int .i64 c.he, .int .i64 c.ba, .int .i64 c.ag, .int .i64 c.pa, .slice pa pn pc, .slice sa sn sc]
/-- The value v is a configuration that reads as c. -/
def IsCfg (w : World) (B : Nat) (v : Value) (c : Cfg) : Prop := ∃ pa pn pc sa sn sc, v = cv c pa pn pc sa sn sc ∧ Lists w B c pa pn sa sn

/-- What a call gives that makes memory alone. -/
def Gives (v : Value) (w : World) (e : Ending) (w' : World) : Prop := e = .returned v ∧ Below w.heap.size w w'

/-- The eleven cells of a configuration in a block. -/
structure Eleven (w : World) (g : Nat) (c : Cfg) (pa : Option Addr) (pn pc : Nat) (sa : Option Addr) (sn sc : Nat) : Prop where
  c0 : w.cell? ⟨g, 0, none⟩ = some (.int .i64 c.wo)
  c1 : w.cell? ⟨g, 1, none⟩ = some (.int .i64 c.le)
  c2 : w.cell? ⟨g, 2, none⟩ = some (.int .i64 c.cl)
  c3 : w.cell? ⟨g, 3, none⟩ = some (.int .i64 c.ta)
  c4 : w.cell? ⟨g, 4, none⟩ = some (.int .i64 c.de)
  c5 : w.cell? ⟨g, 5, none⟩ = some (.int .i64 c.he)
  c6 : w.cell? ⟨g, 6, none⟩ = some (.int .i64 c.ba)
  c7 : w.cell? ⟨g, 7, none⟩ = some (.int .i64 c.ag)
  c8 : w.cell? ⟨g, 8, none⟩ = some (.int .i64 c.pa)
  c9 : w.cell? ⟨g, 9, none⟩ = some (.slice pa pn pc)
  c10 : w.cell? ⟨g, 10, none⟩ = some (.slice sa sn sc)
theorem eleven {w : World} {g : Nat} {c : Cfg} {pa sa : Option Addr} {pn pc sn sc : Nat} (h : Blk w g 57 (cc c pa pn pc sa sn sc)) : Eleven w g c pa pn pc sa sn sc :=
  ⟨h.at_ 0, h.at_ 1, h.at_ 2, h.at_ 3, h.at_ 4, h.at_ 5, h.at_ 6, h.at_ 7, h.at_ 8, h.at_ 9, h.at_ 10⟩
end Go.Proofs.Ytllllbepnnpeeaa

namespace Go.Proofs.Ytllllbepnnpeeaa
open Go Go.RowKit
set_option linter.unusedSimpArgs false

/-- What an environment holds besides its memory's state: the configuration and where its lists lie, the memory's row, the records, the events. -/
structure EnvA where
  c : Cfg
  pa : Option Addr
  pn : Nat
  pc : Nat
  sa : Option Addr
  sn : Nat
  sc : Nat
  g : Nat
  cap : Nat
  now : Int
  draw : Int
  rv : Value
  ev : Value
/-- Its cells. -/
abbrev ecells (a : EnvA) (s : St) : Array Value :=
  #[.int .i64 a.c.wo, .int .i64 a.c.le, .int .i64 a.c.cl, .int .i64 a.c.ta, .int .i64 a.c.de, .int .i64 a.c.he, .int .i64 a.c.ba, .int .i64 a.c.ag, .int .i64 a.c.pa, .slice a.pa a.pn a.pc, .slice a.sa a.sn a.sc,
    .slice (some ⟨a.g, 0, none⟩) s.X.length a.cap, .int .i64 s.k, .int .i64 s.i, .int .u64 s.o, .int .u64 s.v, .int .i64 s.c, .int .i64 a.now, .int .i64 a.draw, a.rv, a.ev]
/-- Block p is an environment in state s. -/
structure EnvM (w : World) (p : Nat) (a : EnvA) (s : St) : Prop where
  blk : Blk w p 110 (ecells a s)
  row : Row w a.g s.X.length a.cap s.X
  small : s.X.length ≤ 131072
theorem EnvM.ne {w : World} {p : Nat} {a : EnvA} {s : St} (h : EnvM w p a s) : p ≠ a.g := by
  obtain ⟨cur, hb, _⟩ := h.row.blk
  exact h.blk.apart hb (by decide)
theorem EnvM.of_same {w w' : World} {p : Nat} {a : EnvA} {s : St} (h : EnvM w p a s) (e : w'.heap[p]? = w.heap[p]?) (e' : w'.heap[a.g]? = w.heap[a.g]?) : EnvM w' p a s := ⟨h.blk.of_same e, h.row.of_same e', h.small⟩
theorem EnvM.fr {S : List Nat} {w w' : World} {p : Nat} {a : EnvA} {s : St} (h : EnvM w p a s) (f : Fr S w w') (hp : p ∉ S) (hg : a.g ∉ S) : EnvM w' p a s := h.of_same (f.block p h.blk.lt hp) (f.block a.g h.row.lt hg)
theorem EnvM.alloc {w : World} {p : Nat} {a : EnvA} {s : St} (h : EnvM w p a s) (o : Obj) : EnvM (w.alloc o) p a s := h.of_same (Below.heap_alloc w o p h.blk.lt) (Below.heap_alloc w o a.g h.row.lt)
theorem EnvM.drew {w : World} {p : Nat} {a : EnvA} {s : St} (h : EnvM w p a s) : EnvM w.drew p a s := h.of_same rfl rfl
theorem EnvM.drewN {w : World} {p : Nat} {a : EnvA} {s : St} (h : EnvM w p a s) (n : Nat) : EnvM (w.drewN n) p a s := h.of_same rfl rfl
theorem EnvM.below {w w' : World} {p : Nat} {a : EnvA} {s : St} (h : EnvM w p a s) (hb : Below w.heap.size w w') : EnvM w' p a s := h.of_same (hb.block p h.blk.lt) (hb.block a.g h.row.lt)
theorem EnvM.acc {w : World} {p : Nat} {a : EnvA} {s : St} (h : EnvM w p a s) (k : Int) {j : Nat} (y : Int) :
    EnvM ((((((w.setCell ⟨a.g, j, none⟩ (.int .u64 y)).setCell ⟨p, 12, none⟩ (.int .i64 k)).setCell ⟨p, 13, none⟩ (.int .i64 j)).setCell ⟨p, 14, none⟩ (.int .u64 (s.X.getD j 0))).setCell ⟨p, 15, none⟩ (.int .u64 y)).setCell ⟨p, 16, none⟩ (.int .i64 (wrap64 (s.c + 1)))) p a (s.acc k j y) := by
  have hne := h.ne
  have b := (((((h.blk.of_same (Below.heap_setCell w ⟨a.g, j, none⟩ (.int .u64 y) p hne)).put 12 (.int .i64 k)).put 13 (.int .i64 j)).put 14 (.int .u64 (s.X.getD j 0))).put 15 (.int .u64 y)).put 16 (.int .i64 (wrap64 (s.c + 1)))
  have r := h.row.put (i := j) y
  refine ⟨?_, ?_, by simpa [St.acc] using h.small⟩
  · simpa [St.acc, ecells] using b
  · have e : (s.acc k j y).X.length = s.X.length := by simp [St.acc]
    rw [e]
    refine r.of_same ?_
    rw [Below.heap_setCell _ _ _ _ (by simpa using hne.symm), Below.heap_setCell _ _ _ _ (by simpa using hne.symm), Below.heap_setCell _ _ _ _ (by simpa using hne.symm), Below.heap_setCell _ _ _ _ (by simpa using hne.symm), Below.heap_setCell _ _ _ _ (by simpa using hne.symm)]
end Go.Proofs.Ytllllbepnnpeeaa

namespace Go.Proofs.Ytllllbepnnpeeaa
open Go Go.RowKit

/-- The cells of triples. -/
def cellsT : List T3 → List Value
  | [] => []
  | e :: r => .int .i64 e.1 :: .int .i64 e.2.1 :: .int .i64 e.2.2 :: cellsT r
theorem cellsT_length : ∀ l : List T3, (cellsT l).length = l.length * 3
  | [] => rfl
  | e :: r => by
    simp only [cellsT, List.length_cons, cellsT_length r]
    omega
theorem cellsT_append : ∀ a b : List T3, cellsT (a ++ b) = cellsT a ++ cellsT b
  | [], _ => rfl
  | e :: r, b => by simp [cellsT, cellsT_append r b]
theorem cellsT_at : ∀ (l : List T3) (i : Nat), i < l.length → (cellsT l)[i * 3]? = some (.int .i64 (l.getD i z3).1) ∧ (cellsT l)[i * 3 + 1]? = some (.int .i64 (l.getD i z3).2.1) ∧ (cellsT l)[i * 3 + 2]? = some (.int .i64 (l.getD i z3).2.2)
  | [], _, h => absurd h (by simp)
  | e :: r, 0, _ => ⟨rfl, rfl, rfl⟩
  | e :: r, i + 1, h => by
    have := cellsT_at r i (by simpa using h)
    rw [show (i + 1) * 3 = i * 3 + 1 + 1 + 1 by omega]
    simpa [cellsT] using this
theorem cellsT_one (l : List T3) : ∀ u ∈ cellsT l, u.oneCell' = true := by
  induction l with
  | nil => intro u hu; cases hu
  | cons e r ih =>
    intro u hu
    simp only [cellsT, List.mem_cons] at hu
    rcases hu with rfl | rfl | rfl | hu
    · rfl
    · rfl
    · rfl
    · exact ih u hu

theorem info_instr : (Try.prog.info? 207).map (fun i => (i.zero, i.size, i.bytes)) = some (some (.agg #[.int .i64 0, .int .i64 0, .int .i64 0]), 3, 24) := by kernel_rfl
theorem info_sub : (Try.prog.info? 197).map (fun i => (i.zero, i.size, i.bytes)) = some (some (.agg #[.int .i64 0, .int .i64 0, .int .i64 0]), 3, 24) := by kernel_rfl
theorem info_code : (Try.prog.info? 195).map (fun i => (i.zero, i.size, i.bytes)) = some (some (.slice none 0 0), 1, 24) := by kernel_rfl

/-- The slice v is the call's own (nil, or a row from block base on, of element type t) and holds the triples l. -/
def OwnT (w : World) (base : Nat) (t : TypeId) (v : Value) (l : List T3) : Prop := w.ownsRow base t 3 v l.length (cellsT l)
theorem OwnT.nil (w : World) (base : Nat) (t : TypeId) : OwnT w base t (.slice none 0 0) [] := World.ownsRow_nil w base _ _
theorem OwnT.lt {w : World} {base : Nat} {t : TypeId} {v : Value} {l : List T3} (h : OwnT w base t v l) : ∀ k, v.ownBlock = some k → base ≤ k ∧ k < w.heap.size := World.ownsRow.lt h
theorem OwnT.mono {w : World} {base base' : Nat} {t : TypeId} {v : Value} {l : List T3} (h : OwnT w base t v l) (hb : base' ≤ base) : OwnT w base' t v l := by
  refine ⟨h.1, ?_⟩
  rcases h.2 with h2 | ⟨g, cap, cur, rfl, h2, rest⟩
  · exact .inl h2
  · exact .inr ⟨g, cap, cur, rfl, Nat.le_trans hb h2, rest⟩
theorem OwnT.fr {w w' : World} {base : Nat} {t : TypeId} {v : Value} {l : List T3} {S : List Nat} (h : OwnT w base t v l) (hb : Fr S w w') (hS : ∀ s, s ∈ S → s < base) : OwnT w' base t v l := by
  refine ⟨h.1, ?_⟩
  rcases h.2 with h2 | ⟨g, cap, cur, rfl, h2, hg, rest⟩
  · exact .inl h2
  · exact .inr ⟨g, cap, cur, rfl, h2, (hb.block g (Array.getElem?_eq_some_iff.1 hg).1 (fun hm => by have := hS g hm; omega)).trans hg, rest⟩
theorem OwnT.below {w w' : World} {base : Nat} {t : TypeId} {v : Value} {l : List T3} (h : OwnT w base t v l) (hb : Below w.heap.size w w') : OwnT w' base t v l := h.fr (S := []) (Fr.old hb) (fun s hs => by cases hs)
theorem OwnT.alloc {w : World} {base : Nat} {t : TypeId} {v : Value} {l : List T3} (h : OwnT w base t v l) (o : Obj) : OwnT (w.alloc o) base t v l := h.below (below_one w o)
theorem OwnT.form {w : World} {base : Nat} {t : TypeId} {v : Value} {l : List T3} (h : OwnT w base t v l) : ∃ a c, v = .slice a l.length c ∧ Tris w base a l.length l ∧ l.length ≤ c := by
  rcases h.2 with ⟨rfl, h2⟩ | ⟨g, cap, cur, rfl, h2, hg, hn, hc, _, _⟩
  · have : l = [] := List.eq_nil_of_length_eq_zero h2
    subst this
    exact ⟨none, 0, rfl, tris_nil _ _ _, Nat.le_refl _⟩
  · refine ⟨_, cap, rfl, ⟨rfl, Nat.le_trans hn hc, fun i hi => ⟨_, rfl, h2, (Array.getElem?_eq_some_iff.1 hg).1, ?_, ?_, ?_⟩⟩, hn⟩
    · exact World.ownsRow.cells h rfl _ _ (cellsT_at l i hi).1
    · exact World.ownsRow.cells h rfl _ _ (cellsT_at l i hi).2.1
    · exact World.ownsRow.cells h rfl _ _ (cellsT_at l i hi).2.2
theorem OwnT.formN {w : World} {base : Nat} {t : TypeId} {v : Value} {l : List T3} {n : Nat} (h : OwnT w base t v l) (hn : l.length = n) : ∃ a c, v = .slice a n c ∧ Tris w base a n l ∧ n ≤ c := by
  subst hn
  exact h.form

/-- What is left as it was when a row of the call's own grows. -/
theorem fr_grown {S : List Nat} {w0 w w' : World} {row : Option Nat} (hb : Fr S w0 w) (hr : ∀ k, row = some k → w0.heap.size ≤ k) (hg : w.grownBy w' row) : Fr S w0 w' :=
  ⟨hg.os.trans hb.os, hg.tape.trans hb.tape, hg.output.trans hb.output, Nat.le_trans hb.size hg.size, fun k hk hn => (hg.block k (Nat.lt_of_lt_of_le hk hb.size) (fun e => by
    have := hr k e.symm
    omega)).trans (hb.block k hk hn)⟩
/-- The three cells of a triple. -/
def Three (w : World) (x : Addr) (e : T3) : Prop := w.cell? (x.add 0) = some (.int .i64 e.1) ∧ w.cell? (x.add 1) = some (.int .i64 e.2.1) ∧ w.cell? (x.add 2) = some (.int .i64 e.2.2)
theorem three_new (w : World) (t : TypeId) (o p q : Int) : Three (w.alloc (.cells #[.int .i64 o, .int .i64 p, .int .i64 q] t)) ⟨w.heap.size, 0, none⟩ (o, p, q) := by
  have hB := Blk.made w t #[.int .i64 o, .int .i64 p, .int .i64 q]
  exact ⟨hB.at_ 0, hB.at_ 1, hB.at_ 2⟩
theorem Three.cells {w : World} {x : Addr} {e : T3} (h : Three w x e) : ∀ j u, (cellsT [e])[j]? = some u → w.cell? (x.add j) = some u := by
  intro j u hu
  match j, hu with
  | 0, hu => exact h.1.trans hu
  | 1, hu => exact h.2.1.trans hu
  | 2, hu => exact h.2.2.trans hu
  | j + 3, hu => simp [cellsT] at hu

/-- An append of one triple at the operation, for the walk. -/
theorem wpList_appT {w : World} {ops : Array Oper} {rest : List Oper} {o : Oper} {a : Act} {Q : Exit → Act → World → Prop} {t tt : TypeId} (hu : Try.prog.underlying tt = some (.slice t))
    (hinfo : (Try.prog.info? t).map (fun i => (i.zero, i.size, i.bytes)) = some (some (.agg #[.int .i64 0, .int .i64 0, .int .i64 0]), 3, 24)) (hgd : o.guard = none) (s x : Operand)
    (ho : o.op = .call { callee := .builtin .append, args := #[s, x], argTypes := #[tt, tt] })
    {base : Nat} {v : Value} {l : List T3} (hs : a.eval s = v) (hown : OwnT w base t v l) {ad : Addr} {c : Nat} {e : T3} (hx : a.eval x = .slice (some ad) 1 c) (h3 : Three w ad e) (hn : l.length + 1 ≤ 1000000) (hb : base ≤ w.heap.size)
    (h : ∀ v' w', OwnT w' base t v' (l ++ [e]) → w.grownBy w' v.ownBlock → (v'.ownBlock = v.ownBlock ∨ v'.ownBlock = some w.heap.size) → wpList Try.prog ops Q rest (a.put o.dst v') w') :
    wpList Try.prog ops Q (o :: rest) a w := by
  obtain ⟨i0, hi, hz0, hz1, hz2⟩ := info_parts hinfo
  refine wpList_append_own_at w hgd s x tt ho base t i0 _ 3 24 hu hi hz0 hz1 hz2 rfl (by omega) v l.length (cellsT l) hs hown ad 1 c (cellsT [e]) hx rfl h3.cells (cellsT_one [e]) (by unfold maxLen; omega) (by omega) hb ?_
  intro v' w' h1 h2 _ h4
  refine h v' w' ?_ h2 h4
  unfold OwnT
  rw [cellsT_append, List.length_append]
  exact h1
/-- .. as one step of a region that draws its order. -/
theorem step_appT {w : World} {ops : Array Oper} {o : Oper} {a : Act} {K : Act → World → Prop} {Q : Exit → Act → World → Prop} {E : Prop} {t tt : TypeId} (hu : Try.prog.underlying tt = some (.slice t))
    (hinfo : (Try.prog.info? t).map (fun i => (i.zero, i.size, i.bytes)) = some (some (.agg #[.int .i64 0, .int .i64 0, .int .i64 0]), 3, 24)) (hgd : o.guard = none) (s x : Operand)
    (ho : o.op = .call { callee := .builtin .append, args := #[s, x], argTypes := #[tt, tt] })
    {base : Nat} {v : Value} {l : List T3} (hs : a.eval s = v) (hown : OwnT w base t v l) {ad : Addr} {c : Nat} {e : T3} (hx : a.eval x = .slice (some ad) 1 c) (h3 : Three w ad e) (hn : l.length + 1 ≤ 1000000) (hb : base ≤ w.heap.size)
    (h : ∀ v' w', OwnT w' base t v' (l ++ [e]) → w.grownBy w' v.ownBlock → K (a.put o.dst v') w') :
    if Region.wanted o (yielded ops a.tmps) = true then Oper.wp Try.prog o a w K Q else E := by
  obtain ⟨i0, hi, hz0, hz1, hz2⟩ := info_parts hinfo
  have hw : Region.wanted o (yielded ops a.tmps) = true := by simp [Region.wanted, hgd]
  rw [if_pos hw]
  refine wp_append_own w s x tt ho base t i0 _ 3 24 hu hi hz0 hz1 hz2 rfl (by omega) v l.length (cellsT l) hs hown ad 1 c (cellsT [e]) hx rfl h3.cells (cellsT_one [e]) (by unfold maxLen; omega) (by omega) hb ?_
  intro v' w' h1 h2 _
  refine h v' w' ?_ h2
  unfold OwnT
  rw [cellsT_append, List.length_append]
  exact h1

/-- The slice v is the call's own and holds the programs ps, each of them of the call's own. -/
def OwnP (w : World) (base : Nat) (v : Value) (ps : List (List T3)) : Prop :=
  ∃ vs : List Value, vs.length = ps.length ∧ w.ownsRow base 195 1 v ps.length vs ∧ ∀ i, i < ps.length → OwnT w base 207 (vs.getD i (.slice none 0 0)) (ps.getD i [])
theorem OwnP.nil (w : World) (base : Nat) : OwnP w base (.slice none 0 0) [] := ⟨[], rfl, World.ownsRow_nil w base _ _, fun i hi => by simp at hi⟩
theorem OwnP.lt {w : World} {base : Nat} {v : Value} {ps : List (List T3)} (h : OwnP w base v ps) : ∀ k, v.ownBlock = some k → base ≤ k ∧ k < w.heap.size := by
  obtain ⟨vs, _, h2, _⟩ := h
  exact World.ownsRow.lt h2
theorem OwnP.fr {w w' : World} {base : Nat} {v : Value} {ps : List (List T3)} {S : List Nat} (h : OwnP w base v ps) (hb : Fr S w w') (hS : ∀ s, s ∈ S → s < base) : OwnP w' base v ps := by
  obtain ⟨vs, h1, h2, h3⟩ := h
  refine ⟨vs, h1, ⟨h2.1, ?_⟩, fun i hi => (h3 i hi).fr hb hS⟩
  rcases h2.2 with h2 | ⟨g, cap, cur, rfl, h2, hg, rest⟩
  · exact .inl h2
  · exact .inr ⟨g, cap, cur, rfl, h2, (hb.block g (Array.getElem?_eq_some_iff.1 hg).1 (fun hm => by have := hS g hm; omega)).trans hg, rest⟩
theorem OwnP.below {w w' : World} {base : Nat} {v : Value} {ps : List (List T3)} (h : OwnP w base v ps) (hb : Below w.heap.size w w') : OwnP w' base v ps := h.fr (S := []) (Fr.old hb) (fun s hs => by cases hs)
theorem OwnP.alloc {w : World} {base : Nat} {v : Value} {ps : List (List T3)} (h : OwnP w base v ps) (o : Obj) : OwnP (w.alloc o) base v ps := h.below (below_one w o)
theorem OwnP.form {w : World} {base : Nat} {v : Value} {ps : List (List T3)} (h : OwnP w base v ps) : ∃ a c, v = .slice a ps.length c ∧ Prgs w base a ps.length ps ∧ ps.length ≤ c := by
  obtain ⟨vs, h1, h2, h3⟩ := h
  rcases h2.2 with ⟨rfl, h4⟩ | ⟨g, cap, cur, rfl, h4, hg, hn, hc, _, _⟩
  · have : ps = [] := List.eq_nil_of_length_eq_zero h4
    subst this
    exact ⟨none, 0, rfl, prgs_nil _ _ _, Nat.le_refl _⟩
  · refine ⟨_, cap, rfl, ⟨rfl, Nat.le_trans hn hc, fun i hi => ?_⟩, hn⟩
    obtain ⟨b, c, e, ht, _⟩ := (h3 i hi).form
    refine ⟨_, b, _, c, rfl, h4, (Array.getElem?_eq_some_iff.1 hg).1, ?_, ht⟩
    refine World.ownsRow.cells h2 rfl _ _ ?_
    have hi' : i < vs.length := by omega
    rw [← e, List.getD_eq_getElem?_getD, List.getElem?_eq_getElem hi']
    rfl
theorem OwnP.formN {w : World} {base : Nat} {v : Value} {ps : List (List T3)} {n : Nat} (h : OwnP w base v ps) (hn : ps.length = n) : ∃ a c, v = .slice a n c ∧ Prgs w base a n ps ∧ n ≤ c := by
  subst hn
  exact h.form
/-- Appending a program. -/
theorem ownP_app {w w' : World} {base : Nat} {v v' vp : Value} {ps : List (List T3)} {p : List T3} {vs : List Value} (h1 : vs.length = ps.length) (h2 : w.ownsRow base 195 1 v ps.length vs)
    (h3 : ∀ i, i < ps.length → OwnT w base 207 (vs.getD i (.slice none 0 0)) (ps.getD i [])) (hp : OwnT w base 207 vp p) (hg : w.grownBy w' v.ownBlock)
    (ho : w'.ownsRow base 195 1 v' (ps.length + 1) (vs ++ [vp])) : OwnP w' base v' (ps ++ [p]) := by
  have keep : ∀ vq q, OwnT w base 207 vq q → OwnT w' base 207 vq q := by
    intro vq q hq
    refine ⟨hq.1, ?_⟩
    rcases hq.2 with h4 | ⟨g, cap, cur, rfl, h4, hgg, rest⟩
    · exact .inl h4
    · refine .inr ⟨g, cap, cur, rfl, h4, (hg.block g (Array.getElem?_eq_some_iff.1 hgg).1 (fun e => ?_)).trans hgg, rest⟩
      rcases h2.2 with ⟨rfl, _⟩ | ⟨g2, cap2, cur2, rfl, _, hg2, _⟩
      · simp [Value.ownBlock] at e
      · simp [Value.ownBlock] at e
        subst e
        rw [hgg] at hg2
        cases hg2
  refine ⟨vs ++ [vp], by simp [h1], by simpa using ho, fun i hi => ?_⟩
  by_cases hin : i < ps.length
  · have e1 : (vs ++ [vp]).getD i (.slice none 0 0) = vs.getD i (.slice none 0 0) := by
      rw [List.getD_eq_getElem?_getD, List.getD_eq_getElem?_getD, List.getElem?_append_left (by omega)]
    have e2 : (ps ++ [p]).getD i [] = ps.getD i [] := by
      rw [List.getD_eq_getElem?_getD, List.getD_eq_getElem?_getD, List.getElem?_append_left (by omega)]
    rw [e1, e2]
    exact keep _ _ (h3 i hin)
  · have hie : i = ps.length := by
      simp at hi
      omega
    subst hie
    have e1 : (vs ++ [vp]).getD ps.length (.slice none 0 0) = vp := by
      rw [List.getD_eq_getElem?_getD, List.getElem?_append_right (by omega), h1, Nat.sub_self]
      rfl
    have e2 : (ps ++ [p]).getD ps.length [] = p := by
      rw [List.getD_eq_getElem?_getD, List.getElem?_append_right (by omega), Nat.sub_self]
      rfl
    rw [e1, e2]
    exact keep _ _ hp
theorem wpList_appP {w : World} {ops : Array Oper} {rest : List Oper} {o : Oper} {a : Act} {Q : Exit → Act → World → Prop} (hgd : o.guard = none) (s x : Operand)
    (ho : o.op = .call { callee := .builtin .append, args := #[s, x], argTypes := #[54, 54] })
    {base : Nat} {v : Value} {ps : List (List T3)} (hs : a.eval s = v) (hown : OwnP w base v ps) {ad : Addr} {c : Nat} {vp : Value} {p : List T3} (hx : a.eval x = .slice (some ad) 1 c) (hc : w.cell? (ad.add 0) = some vp) (hp : OwnT w base 207 vp p) (hn : ps.length + 1 ≤ 1000000) (hb : base ≤ w.heap.size)
    (h : ∀ v' w', OwnP w' base v' (ps ++ [p]) → w.grownBy w' v.ownBlock → (v'.ownBlock = v.ownBlock ∨ v'.ownBlock = some w.heap.size) → wpList Try.prog ops Q rest (a.put o.dst v') w') :
    wpList Try.prog ops Q (o :: rest) a w := by
  obtain ⟨i0, hi, hz0, hz1, hz2⟩ := info_parts info_code
  obtain ⟨vs, h1, h2, h3⟩ := hown
  obtain ⟨pa, pc, rfl, _⟩ := hp.form
  refine wpList_append_own_at w hgd s x 54 ho base 195 i0 _ 1 24 Try.underlying54 hi hz0 hz1 hz2 rfl (by omega) v ps.length vs hs h2 ad 1 c [.slice pa p.length pc] hx rfl ?_ ?_ (by unfold maxLen; omega) (by omega) hb ?_
  · intro j u hu
    match j, hu with
    | 0, hu => exact hc.trans hu
    | j + 1, hu => simp at hu
  · intro u hu
    simp at hu
    subst hu
    rfl
  · intro v' w' g1 g2 _ g4
    exact h v' w' (ownP_app h1 h2 h3 hp g2 g1) g2 g4
end Go.Proofs.Ytllllbepnnpeeaa
