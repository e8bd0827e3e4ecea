/-
  Words for opening a law's arguments, whatever their types.
  Slices of triples, slices of slices of triples and configurations, as the walks are told of them.
  The reference's environment: its cells. No function is named. (Written by wip/gen_env.py.)
  The accesses to the memory of the reference's environment, by Access. (Once written by wip/gen_env.py.)
-/
import Derived.Test.YtheimjcgpbmecaaGreatRows
import Derived.WalkKit
import Derived.ProofKit
import Derived.OpenShut
import Derived.ShutString
import Derived.ChangeOld
import Derived.Deep.Slices
import Derived.Deep.Fields
import Derived.Test.YtheimjcgpbmecaaGreatCfMath
import Derived.Test.YtheimjcgpbmecaaGreatMgAA
import Derived.WalkSpells
import Derived.WalkLawsBesides
import Derived.Lib.Hide
import Derived.Maps.AppendAt
import Derived.Deep.OwnRows
import Derived.Deep.QuietTactic
import Derived.BigQuiet
import Derived.BigRegion
import Derived.Deep.RegionHeld3
import Derived.Deep.RegionLaw
import Derived.StillTailTactics
namespace Go.Proofs.YtheimjcgpbmecaaGreat
open Go Go.ChangeShapes Go.WideShapes Go.ChangeAt Go.RowKit

theorem ownKnobs : ownKnob Tryz.prog.godebug = none := by kernel_rfl
theorem laidOut : laidOutB Tryz.prog = true := by kernel_rfl

theorem u64_nat {a : Int} (h : (Lit.int .u64 a).wf = true) : ∃ x : Nat, a = (x : Int) ∧ x < 18446744073709551616 := by
  simp only [Lit.wf, Bool.and_eq_true, decide_eq_true_eq] at h
  have h0 : IntKind.u64.min = 0 := rfl
  have h1 : IntKind.u64.max = 18446744073709551615 := rfl
  rw [h0, h1] at h
  exact ⟨a.toNat, by omega, by omega⟩

theorem i64_in {a : Int} (h : (Lit.int .i64 a).wf = true) : -9223372036854775808 ≤ a ∧ a ≤ 9223372036854775807 := by
  simp only [Lit.wf, Bool.and_eq_true, decide_eq_true_eq] at h
  have h0 : IntKind.i64.min = -9223372036854775808 := rfl
  have h1 : IntKind.i64.max = 9223372036854775807 := rfl
  rw [h0, h1] at h
  exact h

theorem u8_in {a : Int} (h : (Lit.int .u8 a).wf = true) : 0 ≤ a ∧ a ≤ 255 := by
  simp only [Lit.wf, Bool.and_eq_true, decide_eq_true_eq] at h
  have h0 : IntKind.u8.min = 0 := rfl
  have h1 : IntKind.u8.max = 255 := rfl
  rw [h0, h1] at h
  exact h
end Go.Proofs.YtheimjcgpbmecaaGreat

namespace Go.Proofs.YtheimjcgpbmecaaGreat
open Go Go.RowKit

abbrev z3 : T3 := (0, 0, 0)

/-- The slice (a, n) reads as the triples l, in a block from B on. -/
def Tris (w : World) (B : Nat) (a : Option Addr) (n : Nat) (l : List T3) : Prop :=
  l.length = n ∧ n ≤ maxLen ∧ ∀ i, i < n → ∃ x : Addr, a = some x ∧ B ≤ x.block ∧ x.block < w.heap.size ∧ w.cell? (x.add (i * 3)) = some (.int .i64 (l.getD i z3).1) ∧ w.cell? (x.add (i * 3 + 1)) = some (.int .i64 (l.getD i z3).2.1) ∧ w.cell? (x.add (i * 3 + 2)) = some (.int .i64 (l.getD i z3).2.2)

theorem Tris.mono {w : World} {B B' : Nat} {a : Option Addr} {n : Nat} {l : List T3} (h : Tris w B a n l) (hb : B' ≤ B) : Tris w B' a n l :=
  ⟨h.1, h.2.1, fun i hi => by
    obtain ⟨x, e, hB, r⟩ := h.2.2 i hi
    exact ⟨x, e, Nat.le_trans hb hB, r⟩⟩
theorem Tris.below {w w' : World} {B : Nat} {a : Option Addr} {n : Nat} {l : List T3} (h : Tris w B a n l) (hb : Below w.heap.size w w') : Tris w' B a n l :=
  ⟨h.1, h.2.1, fun i hi => by
    obtain ⟨x, e, hB, hx, h0, h1, h2⟩ := h.2.2 i hi
    have hc : ∀ j, w'.cell? (x.add j) = w.cell? (x.add j) := fun j => hb.cell (by rw [block_add]; exact hx)
    exact ⟨x, e, hB, Nat.lt_of_lt_of_le hx hb.size, (hc _).trans h0, (hc _).trans h1, (hc _).trans h2⟩⟩
theorem tris_nil (w : World) (B : Nat) (a : Option Addr) : Tris w B a 0 [] := ⟨rfl, by omega, fun i hi => by omega⟩
theorem Tris.at_ {w : World} {B : Nat} {a : Option Addr} {n : Nat} {l : List T3} (h : Tris w B a n l) {i : Nat} (hi : i < n) :
    ∃ (x : Addr) (o p q : Int), a = some x ∧ l[i]? = some (o, p, q) ∧ B ≤ x.block ∧ x.block < w.heap.size ∧ w.cell? (x.add (i * 3)) = some (.int .i64 o) ∧ w.cell? ⟨(x.add (i * 3)).block, (x.add (i * 3)).off + 1, none⟩ = some (.int .i64 p) ∧ w.cell? ⟨(x.add (i * 3)).block, (x.add (i * 3)).off + 2, none⟩ = some (.int .i64 q) := by
  obtain ⟨x, e, hB, hx, h0, h1, h2⟩ := h.2.2 i hi
  have hl : i < l.length := by rw [h.1]; exact hi
  refine ⟨x, (l.getD i z3).1, (l.getD i z3).2.1, (l.getD i z3).2.2, e, ?_, hB, hx, h0, cell_field (i := i * 3) (j := 0) h1, cell_field (i := i * 3) (j := 1) h2⟩
  rw [List.getD_eq_getElem?_getD, List.getElem?_eq_getElem hl]
  rfl
/-- A store of a number leaves a slice of triples one. -/
theorem cell_put {w : World} {p q : Addr} {u v : Int} (h : w.cell? q = some (.int .i64 u)) : ∃ u', (w.setCell p (.int .i64 v)).cell? q = some (.int .i64 u') := by
  by_cases e : p = q
  · subst e
    exact ⟨v, World.cell?_setCell_same _ _ _ h⟩
  · exact ⟨u, by rw [World.cell?_setCell_other _ _ _ _ e]; exact h⟩
theorem list_of {α : Type} (d : α) (P : Nat → α → Prop) : ∀ n, (∀ i, i < n → ∃ e, P i e) → ∃ l : List α, l.length = n ∧ ∀ i, i < n → P i (l.getD i d)
  | 0, _ => ⟨[], rfl, fun i hi => by omega⟩
  | n + 1, h => by
    obtain ⟨l, hl, hp⟩ := list_of d P n (fun i hi => h i (by omega))
    obtain ⟨e, he⟩ := h n (by omega)
    refine ⟨l ++ [e], by simp [hl], fun i hi => ?_⟩
    by_cases hin : i < n
    · have e1 : (l ++ [e]).getD i d = l.getD i d := by
        rw [List.getD_eq_getElem?_getD, List.getD_eq_getElem?_getD, List.getElem?_append_left (by omega)]
      rw [e1]
      exact hp i hin
    · obtain rfl : i = n := by omega
      have e1 : (l ++ [e]).getD i d = e := by
        rw [List.getD_eq_getElem?_getD, List.getElem?_append_right (by omega), hl, Nat.sub_self]
        rfl
      rw [e1]
      exact he
theorem Tris.put {w : World} {B : Nat} {a : Option Addr} {n : Nat} {l : List T3} (h : Tris w B a n l) (p : Addr) (v : Int) : ∃ l', Tris (w.setCell p (.int .i64 v)) B a n l' := by
  obtain ⟨l', hl, hp⟩ := list_of z3 (fun i (e : T3) => ∃ x : Addr, a = some x ∧ B ≤ x.block ∧ x.block < (w.setCell p (.int .i64 v)).heap.size ∧ (w.setCell p (.int .i64 v)).cell? (x.add (i * 3)) = some (.int .i64 e.1) ∧ (w.setCell p (.int .i64 v)).cell? (x.add (i * 3 + 1)) = some (.int .i64 e.2.1) ∧ (w.setCell p (.int .i64 v)).cell? (x.add (i * 3 + 2)) = some (.int .i64 e.2.2)) n (fun i hi => by
    obtain ⟨x, e, hB, hx, h0, h1, h2⟩ := h.2.2 i hi
    obtain ⟨u0, g0⟩ := cell_put (p := p) (v := v) h0
    obtain ⟨u1, g1⟩ := cell_put (p := p) (v := v) h1
    obtain ⟨u2, g2⟩ := cell_put (p := p) (v := v) h2
    exact ⟨(u0, u1, u2), x, e, hB, by simpa [World.setCell] using hx, g0, g1, g2⟩)
  exact ⟨l', hl, h.2.1, hp⟩

/-- The slice (a, n) reads as the programs ps, all in blocks from B on. -/
def Prgs (w : World) (B : Nat) (a : Option Addr) (n : Nat) (ps : List (List T3)) : Prop :=
  ps.length = n ∧ n ≤ maxLen ∧ ∀ i, i < n → ∃ (x : Addr) (b : Option Addr) (m c : Nat), a = some x ∧ B ≤ x.block ∧ x.block < w.heap.size ∧ w.cell? (x.add i) = some (.slice b m c) ∧ Tris w B b m (ps.getD i [])
theorem Prgs.mono {w : World} {B B' : Nat} {a : Option Addr} {n : Nat} {ps : List (List T3)} (h : Prgs w B a n ps) (hb : B' ≤ B) : Prgs w B' a n ps :=
  ⟨h.1, h.2.1, fun i hi => by
    obtain ⟨x, b, m, c, e, hB, hx, h0, ht⟩ := h.2.2 i hi
    exact ⟨x, b, m, c, e, Nat.le_trans hb hB, hx, h0, ht.mono hb⟩⟩
theorem Prgs.below {w w' : World} {B : Nat} {a : Option Addr} {n : Nat} {ps : List (List T3)} (h : Prgs w B a n ps) (hb : Below w.heap.size w w') : Prgs w' B a n ps :=
  ⟨h.1, h.2.1, fun i hi => by
    obtain ⟨x, b, m, c, e, hB, hx, h0, ht⟩ := h.2.2 i hi
    exact ⟨x, b, m, c, e, hB, Nat.lt_of_lt_of_le hx hb.size, (hb.cell (by rw [block_add]; exact hx)).trans h0, ht.below hb⟩⟩
theorem prgs_nil (w : World) (B : Nat) (a : Option Addr) : Prgs w B a 0 [] := ⟨rfl, by omega, fun i hi => by omega⟩
theorem Prgs.at_ {w : World} {B : Nat} {a : Option Addr} {n : Nat} {ps : List (List T3)} (h : Prgs w B a n ps) {i : Nat} (hi : i < n) :
    ∃ (x : Addr) (b : Option Addr) (m c : Nat) (p : List T3), a = some x ∧ ps[i]? = some p ∧ B ≤ x.block ∧ x.block < w.heap.size ∧ w.cell? (x.add i) = some (.slice b m c) ∧ Tris w B b m p := by
  obtain ⟨x, b, m, c, e, hB, hx, h0, ht⟩ := h.2.2 i hi
  have hl : i < ps.length := by rw [h.1]; exact hi
  refine ⟨x, b, m, c, ps.getD i [], e, ?_, hB, hx, h0, ht⟩
  rw [List.getD_eq_getElem?_getD, List.getElem?_eq_getElem hl]
  rfl
/-- A store of a number where one was leaves programs programs. -/
theorem Prgs.put {w : World} {B : Nat} {a : Option Addr} {n : Nat} {ps : List (List T3)} (h : Prgs w B a n ps) {p : Addr} {u : Int} (hp : w.cell? p = some (.int .i64 u)) (v : Int) :
    ∃ ps', Prgs (w.setCell p (.int .i64 v)) B a n ps' ∧ ∀ i, (ps'.getD i []).length = (ps.getD i []).length := by
  obtain ⟨ps', hl, hh⟩ := list_of [] (fun i (e : List T3) => (e.length = (ps.getD i []).length) ∧ ∃ (x : Addr) (b : Option Addr) (m c : Nat), a = some x ∧ B ≤ x.block ∧ x.block < (w.setCell p (.int .i64 v)).heap.size ∧ (w.setCell p (.int .i64 v)).cell? (x.add i) = some (.slice b m c) ∧ Tris (w.setCell p (.int .i64 v)) B b m e) n (fun i hi => by
    obtain ⟨x, b, m, c, e, hB, hx, h0, ht⟩ := h.2.2 i hi
    obtain ⟨l', hl'⟩ := ht.put p v
    have hne : p ≠ x.add i := by
      intro e'
      subst e'
      rw [h0] at hp
      cases hp
    exact ⟨l', by rw [hl'.1, ht.1], x, b, m, c, e, hB, by simpa [World.setCell] using hx, by rw [World.cell?_setCell_other _ _ _ _ hne]; exact h0, hl'⟩)
  refine ⟨ps', ⟨hl, h.2.1, fun i hi => (hh i hi).2⟩, fun i => ?_⟩
  by_cases hi : i < n
  · exact (hh i hi).1
  · have e1 : ps'.getD i [] = [] := by rw [List.getD_eq_getElem?_getD, List.getElem?_eq_none (by omega)]; rfl
    have e2 : ps.getD i [] = [] := by rw [List.getD_eq_getElem?_getD, List.getElem?_eq_none (by have := h.1; omega)]; rfl
    rw [e1, e2]

/-- The slices (pa, pn) and (sa, sn) read as the lists of c. -/
structure Lists (w : World) (B : Nat) (c : Cfg) (pa : Option Addr) (pn : Nat) (sa : Option Addr) (sn : Nat) : Prop where
  pr : Prgs w B pa pn c.pr
  su : Tris w B sa sn c.su
theorem Lists.mono {w : World} {B B' : Nat} {c : Cfg} {pa sa : Option Addr} {pn sn : Nat} (h : Lists w B c pa pn sa sn) (hb : B' ≤ B) : Lists w B' c pa pn sa sn := ⟨h.pr.mono hb, h.su.mono hb⟩
theorem Lists.below {w w' : World} {B : Nat} {c : Cfg} {pa sa : Option Addr} {pn sn : Nat} (h : Lists w B c pa pn sa sn) (hb : Below w.heap.size w w') : Lists w' B c pa pn sa sn := ⟨h.pr.below hb, h.su.below hb⟩
theorem Lists.alloc {w : World} {B : Nat} {c : Cfg} {pa sa : Option Addr} {pn sn : Nat} (h : Lists w B c pa pn sa sn) (o : Obj) : Lists (w.alloc o) B c pa pn sa sn := h.below (below_one w o)
theorem Lists.drew {w : World} {B : Nat} {c : Cfg} {pa sa : Option Addr} {pn sn : Nat} (h : Lists w B c pa pn sa sn) : Lists w.drew B c pa pn sa sn := h.below (below_drew (Below.refl _ _))

/-- The value of a configuration. -/
abbrev cv (c : Cfg) (pa : Option Addr) (pn pc : Nat) (sa : Option Addr) (sn sc : Nat) : Value :=
  .agg #[.int .i64 c.wo, .int .i64 c.le, .int .i64 c.cl, .int .i64 c.ta, .int .i64 c.de, .int .i64 c.he, .int .i64 c.ba, .int .i64 c.ag, .int .i64 c.pa, .slice pa pn pc, .slice sa sn sc]
/-- Its cells. -/
abbrev cc (c : Cfg) (pa : Option Addr) (pn pc : Nat) (sa : Option Addr) (sn sc : Nat) : Array Value :=
  #[.int .i64 c.wo, .int .i64 c.le, .int .i64 c.cl, .int .i64 c.ta, .int .i64 c.de, .int .i64 c.he, .int .i64 c.ba, .int .i64 c.ag, .int .i64 c.pa, .slice pa pn pc, .slice sa sn sc]
/-- The value v is a configuration that reads as c. -/
def IsCfg (w : World) (B : Nat) (v : Value) (c : Cfg) : Prop := ∃ pa pn pc sa sn sc, v = cv c pa pn pc sa sn sc ∧ Lists w B c pa pn sa sn

/-- What a call gives that makes memory alone. -/
def Gives (v : Value) (w : World) (e : Ending) (w' : World) : Prop := e = .returned v ∧ Below w.heap.size w w'

/-- The eleven cells of a configuration in a block. -/
structure Eleven (w : World) (g : Nat) (c : Cfg) (pa : Option Addr) (pn pc : Nat) (sa : Option Addr) (sn sc : Nat) : Prop where
  c0 : w.cell? ⟨g, 0, none⟩ = some (.int .i64 c.wo)
  c1 : w.cell? ⟨g, 1, none⟩ = some (.int .i64 c.le)
  c2 : w.cell? ⟨g, 2, none⟩ = some (.int .i64 c.cl)
  c3 : w.cell? ⟨g, 3, none⟩ = some (.int .i64 c.ta)
  c4 : w.cell? ⟨g, 4, none⟩ = some (.int .i64 c.de)
  c5 : w.cell? ⟨g, 5, none⟩ = some (.int .i64 c.he)
  c6 : w.cell? ⟨g, 6, none⟩ = some (.int .i64 c.ba)
  c7 : w.cell? ⟨g, 7, none⟩ = some (.int .i64 c.ag)
  c8 : w.cell? ⟨g, 8, none⟩ = some (.int .i64 c.pa)
  c9 : w.cell? ⟨g, 9, none⟩ = some (.slice pa pn pc)
  c10 : w.cell? ⟨g, 10, none⟩ = some (.slice sa sn sc)
theorem eleven {w : World} {g : Nat} {c : Cfg} {pa sa : Option Addr} {pn pc sn sc : Nat} (h : Blk w g 29 (cc c pa pn pc sa sn sc)) : Eleven w g c pa pn pc sa sn sc :=
  ⟨h.at_ 0, h.at_ 1, h.at_ 2, h.at_ 3, h.at_ 4, h.at_ 5, h.at_ 6, h.at_ 7, h.at_ 8, h.at_ 9, h.at_ 10⟩
end Go.Proofs.YtheimjcgpbmecaaGreat

namespace Go.Proofs.YtheimjcgpbmecaaGreat
open Go Go.RowKit
set_option linter.unusedSimpArgs false

/-- What an environment holds besides its memory's state: the configuration and where its lists lie, the memory's row, the records, the events. -/
structure EnvA where
  c : Cfg
  pa : Option Addr
  pn : Nat
  pc : Nat
  sa : Option Addr
  sn : Nat
  sc : Nat
  g : Nat
  cap : Nat
  now : Int
  draw : Int
  rv : Value
  ev : Value
/-- Its cells. -/
abbrev ecells (a : EnvA) (s : St) : Array Value :=
  #[.int .i64 a.c.wo, .int .i64 a.c.le, .int .i64 a.c.cl, .int .i64 a.c.ta, .int .i64 a.c.de, .int .i64 a.c.he, .int .i64 a.c.ba, .int .i64 a.c.ag, .int .i64 a.c.pa, .slice a.pa a.pn a.pc, .slice a.sa a.sn a.sc,
    .slice (some ⟨a.g, 0, none⟩) s.X.length a.cap, .int .i64 s.k, .int .i64 s.i, .int .u64 s.o, .int .u64 s.v, .int .i64 s.c, .int .i64 a.now, .int .i64 a.draw, a.rv, a.ev]
/-- Block p is an environment in state s. -/
structure EnvM (w : World) (p : Nat) (a : EnvA) (s : St) : Prop where
  blk : Blk w p 56 (ecells a s)
  row : Row w a.g s.X.length a.cap s.X
  small : s.X.length ≤ 131072
theorem EnvM.ne {w : World} {p : Nat} {a : EnvA} {s : St} (h : EnvM w p a s) : p ≠ a.g := by
  obtain ⟨cur, hb, _⟩ := h.row.blk
  exact h.blk.apart hb (by decide)
theorem EnvM.of_same {w w' : World} {p : Nat} {a : EnvA} {s : St} (h : EnvM w p a s) (e : w'.heap[p]? = w.heap[p]?) (e' : w'.heap[a.g]? = w.heap[a.g]?) : EnvM w' p a s := ⟨h.blk.of_same e, h.row.of_same e', h.small⟩
theorem EnvM.fr {S : List Nat} {w w' : World} {p : Nat} {a : EnvA} {s : St} (h : EnvM w p a s) (f : Fr S w w') (hp : p ∉ S) (hg : a.g ∉ S) : EnvM w' p a s := h.of_same (f.block p h.blk.lt hp) (f.block a.g h.row.lt hg)
theorem EnvM.alloc {w : World} {p : Nat} {a : EnvA} {s : St} (h : EnvM w p a s) (o : Obj) : EnvM (w.alloc o) p a s := h.of_same (Below.heap_alloc w o p h.blk.lt) (Below.heap_alloc w o a.g h.row.lt)
theorem EnvM.drew {w : World} {p : Nat} {a : EnvA} {s : St} (h : EnvM w p a s) : EnvM w.drew p a s := h.of_same rfl rfl
theorem EnvM.drewN {w : World} {p : Nat} {a : EnvA} {s : St} (h : EnvM w p a s) (n : Nat) : EnvM (w.drewN n) p a s := h.of_same rfl rfl
theorem EnvM.below {w w' : World} {p : Nat} {a : EnvA} {s : St} (h : EnvM w p a s) (hb : Below w.heap.size w w') : EnvM w' p a s := h.of_same (hb.block p h.blk.lt) (hb.block a.g h.row.lt)
theorem EnvM.acc {w : World} {p : Nat} {a : EnvA} {s : St} (h : EnvM w p a s) (k : Int) {j : Nat} (y : Int) :
    EnvM ((((((w.setCell ⟨a.g, j, none⟩ (.int .u64 y)).setCell ⟨p, 12, none⟩ (.int .i64 k)).setCell ⟨p, 13, none⟩ (.int .i64 j)).setCell ⟨p, 14, none⟩ (.int .u64 (s.X.getD j 0))).setCell ⟨p, 15, none⟩ (.int .u64 y)).setCell ⟨p, 16, none⟩ (.int .i64 (wrap64 (s.c + 1)))) p a (s.acc k j y) := by
  have hne := h.ne
  have b := (((((h.blk.of_same (Below.heap_setCell w ⟨a.g, j, none⟩ (.int .u64 y) p hne)).put 12 (.int .i64 k)).put 13 (.int .i64 j)).put 14 (.int .u64 (s.X.getD j 0))).put 15 (.int .u64 y)).put 16 (.int .i64 (wrap64 (s.c + 1)))
  have r := h.row.put (i := j) y
  refine ⟨?_, ?_, by simpa [St.acc] using h.small⟩
  · simpa [St.acc, ecells] using b
  · have e : (s.acc k j y).X.length = s.X.length := by simp [St.acc]
    rw [e]
    refine r.of_same ?_
    rw [Below.heap_setCell _ _ _ _ (by simpa using hne.symm), Below.heap_setCell _ _ _ _ (by simpa using hne.symm), Below.heap_setCell _ _ _ _ (by simpa using hne.symm), Below.heap_setCell _ _ _ _ (by simpa using hne.symm), Below.heap_setCell _ _ _ _ (by simpa using hne.symm)]
end Go.Proofs.YtheimjcgpbmecaaGreat

namespace Go.Proofs.YtheimjcgpbmecaaGreat
open Go Go.RowKit
set_option linter.unusedSimpArgs false

theorem ein_yes {w : World} {p : Nat} {a : EnvA} {s : St} (h : EnvM w p a s) {j : Nat} (hj : j < s.X.length) :
    Calls Tryz.prog 55 #[.pointer (some ⟨p, 11, none⟩), .int .i64 j] w fun e w' => e = .returned (.bool true) ∧ w = w' := by
  have h0 : w.cell? ⟨p, 11, none⟩ = some (.slice (some ⟨a.g, 0, none⟩) s.X.length a.cap) := h.blk.at_ 11
  have hs := h.small
  go_enter Tryz.func55, Tryz.ntmps55
  go_wp2
  go_ret
  exact ⟨rfl, rfl⟩
theorem ein_no {w : World} {p : Nat} {a : EnvA} {s : St} (h : EnvM w p a s) {i : Int} (hi : i < 0 ∨ (s.X.length : Int) ≤ i) :
    Calls Tryz.prog 55 #[.pointer (some ⟨p, 11, none⟩), .int .i64 i] w fun e w' => e = .returned (.bool false) ∧ w = w' := by
  have h0 : w.cell? ⟨p, 11, none⟩ = some (.slice (some ⟨a.g, 0, none⟩) s.X.length a.cap) := h.blk.at_ 11
  have hs := h.small
  by_cases h1 : i < 0
  · go_enter Tryz.func55, Tryz.ntmps55
    go_wp2
    go_ret
    exact ⟨rfl, rfl⟩
  · have h2 : (s.X.length : Int) ≤ i := by omega
    have h3 : decide (i < (s.X.length : Int)) = false := by simpa using h2
    go_enter Tryz.func55, Tryz.ntmps55
    go_wp2
    go_ret
    exact ⟨rfl, rfl⟩
theorem eacc_no {w : World} {p : Nat} {a : EnvA} {s : St} (h : EnvM w p a s) {i : Int} (hi : i < 0 ∨ (s.X.length : Int) ≤ i) (q b d : Int) :
    Calls Tryz.prog 29 #[.pointer (some ⟨p, 11, none⟩), .int .i64 q, .int .i64 i, .int .u64 b, .int .u64 d] w fun e w' => e = .returned (.tuple #[.int .u64 0, .bool false]) ∧ w = w' := by
  go_enter Tryz.func29, Tryz.ntmps29
  go_wp2_with fail
  refine (ein_no h hi).mono ?_
  rintro e w' ⟨rfl, rfl⟩
  go_wp2
  go_ret2
  exact ⟨rfl, rfl⟩
theorem eacc_load {w : World} {p : Nat} {a : EnvA} {s : St} (h : EnvM w p a s) {j : Nat} (hj : j < s.X.length) (b d : Int)  :
    Calls Tryz.prog 29 #[.pointer (some ⟨p, 11, none⟩), .int .i64 1, .int .i64 j, .int .u64 b, .int .u64 d] w fun e w' => e = .returned (.tuple #[.int .u64 (s.X.getD j 0), .bool true]) ∧
      EnvM w' p a (s.acc 1 j (s.X.getD j 0)) ∧ Fr [p, a.g] w w' := by
  have h0 : w.cell? ⟨p, 11, none⟩ = some (.slice (some ⟨a.g, 0, none⟩) s.X.length a.cap) := h.blk.at_ 11
  have h1 : w.cell? ⟨p, 12, none⟩ = some (.int .i64 s.k) := h.blk.at_ 12
  have h2 : w.cell? ⟨p, 13, none⟩ = some (.int .i64 s.i) := h.blk.at_ 13
  have h3 : w.cell? ⟨p, 14, none⟩ = some (.int .u64 s.o) := h.blk.at_ 14
  have h4 : w.cell? ⟨p, 15, none⟩ = some (.int .u64 s.v) := h.blk.at_ 15
  have h5 : w.cell? ⟨p, 16, none⟩ = some (.int .i64 s.c) := h.blk.at_ 16
  have hc : w.cell? ⟨a.g, j, none⟩ = some (.int .u64 (s.X.getD j 0)) := h.row.cell hj
  have f1 := h.blk.free 12
  have f2 := h.blk.free 13
  have f3 := h.blk.free 14
  have f4 := h.blk.free 15
  have f5 := h.blk.free 16
  have fg := h.row.free j
  have hne := h.ne
  have hne' := hne.symm
  have hs := h.small
  have HA := Lib.hid (fun y => h.acc 1 (j := j) y)
  have HI := Lib.hid (ein_yes h hj)
  clear h
  generalize s.X.getD j 0 = x at *
  go_enter Tryz.func29, Tryz.ntmps29
  go_wp2_with fail
  refine HI.out.mono ?_
  rintro e w' ⟨rfl, rfl⟩
  go_wp2
  go_ret2
  exact ⟨rfl, HA.out _, ((((((Fr.refl _ _).setCell (by simp) _).setCell (by simp) _).setCell (by simp) _).setCell (by simp) _).setCell (by simp) _).setCell (by simp) _⟩
theorem eacc_store {w : World} {p : Nat} {a : EnvA} {s : St} (h : EnvM w p a s) {j : Nat} (hj : j < s.X.length) (b d : Int)  :
    Calls Tryz.prog 29 #[.pointer (some ⟨p, 11, none⟩), .int .i64 2, .int .i64 j, .int .u64 b, .int .u64 d] w fun e w' => e = .returned (.tuple #[.int .u64 (s.X.getD j 0), .bool true]) ∧
      EnvM w' p a (s.acc 2 j b) ∧ Fr [p, a.g] w w' := by
  have h0 : w.cell? ⟨p, 11, none⟩ = some (.slice (some ⟨a.g, 0, none⟩) s.X.length a.cap) := h.blk.at_ 11
  have h1 : w.cell? ⟨p, 12, none⟩ = some (.int .i64 s.k) := h.blk.at_ 12
  have h2 : w.cell? ⟨p, 13, none⟩ = some (.int .i64 s.i) := h.blk.at_ 13
  have h3 : w.cell? ⟨p, 14, none⟩ = some (.int .u64 s.o) := h.blk.at_ 14
  have h4 : w.cell? ⟨p, 15, none⟩ = some (.int .u64 s.v) := h.blk.at_ 15
  have h5 : w.cell? ⟨p, 16, none⟩ = some (.int .i64 s.c) := h.blk.at_ 16
  have hc : w.cell? ⟨a.g, j, none⟩ = some (.int .u64 (s.X.getD j 0)) := h.row.cell hj
  have f1 := h.blk.free 12
  have f2 := h.blk.free 13
  have f3 := h.blk.free 14
  have f4 := h.blk.free 15
  have f5 := h.blk.free 16
  have fg := h.row.free j
  have hne := h.ne
  have hne' := hne.symm
  have hs := h.small
  have HA := Lib.hid (fun y => h.acc 2 (j := j) y)
  have HI := Lib.hid (ein_yes h hj)
  clear h
  generalize s.X.getD j 0 = x at *
  go_enter Tryz.func29, Tryz.ntmps29
  go_wp2_with fail
  refine HI.out.mono ?_
  rintro e w' ⟨rfl, rfl⟩
  go_wp2
  go_ret2
  exact ⟨rfl, HA.out _, ((((((Fr.refl _ _).setCell (by simp) _).setCell (by simp) _).setCell (by simp) _).setCell (by simp) _).setCell (by simp) _).setCell (by simp) _⟩
theorem eacc_cas_yes {w : World} {p : Nat} {a : EnvA} {s : St} (h : EnvM w p a s) {j : Nat} (hj : j < s.X.length) (b d : Int) (hx : s.X.getD j 0 = b) :
    Calls Tryz.prog 29 #[.pointer (some ⟨p, 11, none⟩), .int .i64 3, .int .i64 j, .int .u64 b, .int .u64 d] w fun e w' => e = .returned (.tuple #[.int .u64 (s.X.getD j 0), .bool true]) ∧
      EnvM w' p a (s.acc 3 j d) ∧ Fr [p, a.g] w w' := by
  have h0 : w.cell? ⟨p, 11, none⟩ = some (.slice (some ⟨a.g, 0, none⟩) s.X.length a.cap) := h.blk.at_ 11
  have h1 : w.cell? ⟨p, 12, none⟩ = some (.int .i64 s.k) := h.blk.at_ 12
  have h2 : w.cell? ⟨p, 13, none⟩ = some (.int .i64 s.i) := h.blk.at_ 13
  have h3 : w.cell? ⟨p, 14, none⟩ = some (.int .u64 s.o) := h.blk.at_ 14
  have h4 : w.cell? ⟨p, 15, none⟩ = some (.int .u64 s.v) := h.blk.at_ 15
  have h5 : w.cell? ⟨p, 16, none⟩ = some (.int .i64 s.c) := h.blk.at_ 16
  have hc : w.cell? ⟨a.g, j, none⟩ = some (.int .u64 (s.X.getD j 0)) := h.row.cell hj
  have f1 := h.blk.free 12
  have f2 := h.blk.free 13
  have f3 := h.blk.free 14
  have f4 := h.blk.free 15
  have f5 := h.blk.free 16
  have fg := h.row.free j
  have hne := h.ne
  have hne' := hne.symm
  have hs := h.small
  have HA := Lib.hid (fun y => h.acc 3 (j := j) y)
  have HI := Lib.hid (ein_yes h hj)
  clear h
  generalize s.X.getD j 0 = x at *
  subst hx
  go_enter Tryz.func29, Tryz.ntmps29
  go_wp2_with fail
  refine HI.out.mono ?_
  rintro e w' ⟨rfl, rfl⟩
  go_wp2
  go_ret2
  exact ⟨rfl, HA.out _, ((((((Fr.refl _ _).setCell (by simp) _).setCell (by simp) _).setCell (by simp) _).setCell (by simp) _).setCell (by simp) _).setCell (by simp) _⟩
theorem eacc_cas_no {w : World} {p : Nat} {a : EnvA} {s : St} (h : EnvM w p a s) {j : Nat} (hj : j < s.X.length) (b d : Int) (hx : (s.X.getD j 0 == b) = false) :
    Calls Tryz.prog 29 #[.pointer (some ⟨p, 11, none⟩), .int .i64 3, .int .i64 j, .int .u64 b, .int .u64 d] w fun e w' => e = .returned (.tuple #[.int .u64 (s.X.getD j 0), .bool false]) ∧
      EnvM w' p a (s.acc 3 j (s.X.getD j 0)) ∧ Fr [p, a.g] w w' := by
  have h0 : w.cell? ⟨p, 11, none⟩ = some (.slice (some ⟨a.g, 0, none⟩) s.X.length a.cap) := h.blk.at_ 11
  have h1 : w.cell? ⟨p, 12, none⟩ = some (.int .i64 s.k) := h.blk.at_ 12
  have h2 : w.cell? ⟨p, 13, none⟩ = some (.int .i64 s.i) := h.blk.at_ 13
  have h3 : w.cell? ⟨p, 14, none⟩ = some (.int .u64 s.o) := h.blk.at_ 14
  have h4 : w.cell? ⟨p, 15, none⟩ = some (.int .u64 s.v) := h.blk.at_ 15
  have h5 : w.cell? ⟨p, 16, none⟩ = some (.int .i64 s.c) := h.blk.at_ 16
  have hc : w.cell? ⟨a.g, j, none⟩ = some (.int .u64 (s.X.getD j 0)) := h.row.cell hj
  have f1 := h.blk.free 12
  have f2 := h.blk.free 13
  have f3 := h.blk.free 14
  have f4 := h.blk.free 15
  have f5 := h.blk.free 16
  have fg := h.row.free j
  have hne := h.ne
  have hne' := hne.symm
  have hs := h.small
  have HA := Lib.hid (fun y => h.acc 3 (j := j) y)
  have HI := Lib.hid (ein_yes h hj)
  clear h
  generalize s.X.getD j 0 = x at *
  go_enter Tryz.func29, Tryz.ntmps29
  go_wp2_with fail
  refine HI.out.mono ?_
  rintro e w' ⟨rfl, rfl⟩
  go_wp2
  go_ret2
  exact ⟨rfl, HA.out _, ((((((Fr.refl _ _).setCell (by simp) _).setCell (by simp) _).setCell (by simp) _).setCell (by simp) _).setCell (by simp) _).setCell (by simp) _⟩
theorem eacc_or {w : World} {p : Nat} {a : EnvA} {s : St} (h : EnvM w p a s) {j : Nat} (hj : j < s.X.length) (b d : Int)  :
    Calls Tryz.prog 29 #[.pointer (some ⟨p, 11, none⟩), .int .i64 4, .int .i64 j, .int .u64 b, .int .u64 d] w fun e w' => e = .returned (.tuple #[.int .u64 (s.X.getD j 0), .bool true]) ∧
      EnvM w' p a (s.acc 4 j (bits .or .u64 (s.X.getD j 0) b)) ∧ Fr [p, a.g] w w' := by
  have h0 : w.cell? ⟨p, 11, none⟩ = some (.slice (some ⟨a.g, 0, none⟩) s.X.length a.cap) := h.blk.at_ 11
  have h1 : w.cell? ⟨p, 12, none⟩ = some (.int .i64 s.k) := h.blk.at_ 12
  have h2 : w.cell? ⟨p, 13, none⟩ = some (.int .i64 s.i) := h.blk.at_ 13
  have h3 : w.cell? ⟨p, 14, none⟩ = some (.int .u64 s.o) := h.blk.at_ 14
  have h4 : w.cell? ⟨p, 15, none⟩ = some (.int .u64 s.v) := h.blk.at_ 15
  have h5 : w.cell? ⟨p, 16, none⟩ = some (.int .i64 s.c) := h.blk.at_ 16
  have hc : w.cell? ⟨a.g, j, none⟩ = some (.int .u64 (s.X.getD j 0)) := h.row.cell hj
  have f1 := h.blk.free 12
  have f2 := h.blk.free 13
  have f3 := h.blk.free 14
  have f4 := h.blk.free 15
  have f5 := h.blk.free 16
  have fg := h.row.free j
  have hne := h.ne
  have hne' := hne.symm
  have hs := h.small
  have HA := Lib.hid (fun y => h.acc 4 (j := j) y)
  have HI := Lib.hid (ein_yes h hj)
  clear h
  generalize s.X.getD j 0 = x at *
  go_enter Tryz.func29, Tryz.ntmps29
  go_wp2_with fail
  refine HI.out.mono ?_
  rintro e w' ⟨rfl, rfl⟩
  go_wp2
  go_ret2
  exact ⟨rfl, HA.out _, ((((((Fr.refl _ _).setCell (by simp) _).setCell (by simp) _).setCell (by simp) _).setCell (by simp) _).setCell (by simp) _).setCell (by simp) _⟩
theorem eacc_and {w : World} {p : Nat} {a : EnvA} {s : St} (h : EnvM w p a s) {j : Nat} (hj : j < s.X.length) (b d : Int)  :
    Calls Tryz.prog 29 #[.pointer (some ⟨p, 11, none⟩), .int .i64 5, .int .i64 j, .int .u64 b, .int .u64 d] w fun e w' => e = .returned (.tuple #[.int .u64 (s.X.getD j 0), .bool true]) ∧
      EnvM w' p a (s.acc 5 j (bits .and .u64 (s.X.getD j 0) b)) ∧ Fr [p, a.g] w w' := by
  have h0 : w.cell? ⟨p, 11, none⟩ = some (.slice (some ⟨a.g, 0, none⟩) s.X.length a.cap) := h.blk.at_ 11
  have h1 : w.cell? ⟨p, 12, none⟩ = some (.int .i64 s.k) := h.blk.at_ 12
  have h2 : w.cell? ⟨p, 13, none⟩ = some (.int .i64 s.i) := h.blk.at_ 13
  have h3 : w.cell? ⟨p, 14, none⟩ = some (.int .u64 s.o) := h.blk.at_ 14
  have h4 : w.cell? ⟨p, 15, none⟩ = some (.int .u64 s.v) := h.blk.at_ 15
  have h5 : w.cell? ⟨p, 16, none⟩ = some (.int .i64 s.c) := h.blk.at_ 16
  have hc : w.cell? ⟨a.g, j, none⟩ = some (.int .u64 (s.X.getD j 0)) := h.row.cell hj
  have f1 := h.blk.free 12
  have f2 := h.blk.free 13
  have f3 := h.blk.free 14
  have f4 := h.blk.free 15
  have f5 := h.blk.free 16
  have fg := h.row.free j
  have hne := h.ne
  have hne' := hne.symm
  have hs := h.small
  have HA := Lib.hid (fun y => h.acc 5 (j := j) y)
  have HI := Lib.hid (ein_yes h hj)
  clear h
  generalize s.X.getD j 0 = x at *
  go_enter Tryz.func29, Tryz.ntmps29
  go_wp2_with fail
  refine HI.out.mono ?_
  rintro e w' ⟨rfl, rfl⟩
  go_wp2
  go_ret2
  exact ⟨rfl, HA.out _, ((((((Fr.refl _ _).setCell (by simp) _).setCell (by simp) _).setCell (by simp) _).setCell (by simp) _).setCell (by simp) _).setCell (by simp) _⟩
theorem eacc_add {w : World} {p : Nat} {a : EnvA} {s : St} (h : EnvM w p a s) {j : Nat} (hj : j < s.X.length) (b d : Int)  :
    Calls Tryz.prog 29 #[.pointer (some ⟨p, 11, none⟩), .int .i64 6, .int .i64 j, .int .u64 b, .int .u64 d] w fun e w' => e = .returned (.tuple #[.int .u64 (s.X.getD j 0), .bool true]) ∧
      EnvM w' p a (s.acc 6 j (IntKind.u64.wrap (s.X.getD j 0 + b))) ∧ Fr [p, a.g] w w' := by
  have h0 : w.cell? ⟨p, 11, none⟩ = some (.slice (some ⟨a.g, 0, none⟩) s.X.length a.cap) := h.blk.at_ 11
  have h1 : w.cell? ⟨p, 12, none⟩ = some (.int .i64 s.k) := h.blk.at_ 12
  have h2 : w.cell? ⟨p, 13, none⟩ = some (.int .i64 s.i) := h.blk.at_ 13
  have h3 : w.cell? ⟨p, 14, none⟩ = some (.int .u64 s.o) := h.blk.at_ 14
  have h4 : w.cell? ⟨p, 15, none⟩ = some (.int .u64 s.v) := h.blk.at_ 15
  have h5 : w.cell? ⟨p, 16, none⟩ = some (.int .i64 s.c) := h.blk.at_ 16
  have hc : w.cell? ⟨a.g, j, none⟩ = some (.int .u64 (s.X.getD j 0)) := h.row.cell hj
  have f1 := h.blk.free 12
  have f2 := h.blk.free 13
  have f3 := h.blk.free 14
  have f4 := h.blk.free 15
  have f5 := h.blk.free 16
  have fg := h.row.free j
  have hne := h.ne
  have hne' := hne.symm
  have hs := h.small
  have HA := Lib.hid (fun y => h.acc 6 (j := j) y)
  have HI := Lib.hid (ein_yes h hj)
  clear h
  generalize s.X.getD j 0 = x at *
  go_enter Tryz.func29, Tryz.ntmps29
  go_wp2_with fail
  refine HI.out.mono ?_
  rintro e w' ⟨rfl, rfl⟩
  go_wp2
  go_ret2
  exact ⟨rfl, HA.out _, ((((((Fr.refl _ _).setCell (by simp) _).setCell (by simp) _).setCell (by simp) _).setCell (by simp) _).setCell (by simp) _).setCell (by simp) _⟩
end Go.Proofs.YtheimjcgpbmecaaGreat
