/-
  What the comparisons of configurations share, the program's and the reference's.
-/
import Derived.Test.YthiiidkkdlmneaaCfOwn
import Derived.Deep.RegionHeld
import Derived.ChangeKeysEq
namespace Go.Proofs.Ythiiidkkdlmneaa
open Go Go.RowKit

theorem drop_step {α : Type} {l l' : List α} {k : Nat} {x y : α} (h : l[k]? = some x) (h' : l'[k]? = some y) : l.drop k = l'.drop k ↔ x = y ∧ l.drop (k + 1) = l'.drop (k + 1) := by
  obtain ⟨hk, he⟩ := List.getElem?_eq_some_iff.1 h
  obtain ⟨hk', he'⟩ := List.getElem?_eq_some_iff.1 h'
  rw [List.drop_eq_getElem_cons hk, List.drop_eq_getElem_cons hk', he, he']
  simp
theorem beq_of {x y : Int} (h : x ≠ y) : (x == y) = false := by simpa using h

def EqGives (b : Bool) (w : World) (e : Ending) (w' : World) : Prop := e = .returned (.bool b) ∧ Below w.heap.size w w'

theorem cfg_ext {c d : Cfg} : c = d ↔ (c.wo = d.wo ∧ c.le = d.le ∧ c.cl = d.cl ∧ c.ta = d.ta ∧ c.de = d.de ∧ c.he = d.he ∧ c.ba = d.ba ∧ c.ag = d.ag ∧ c.pa = d.pa) ∧ c.pr = d.pr ∧ c.su = d.su := by
  obtain ⟨a0, a1, a2, a3, a4, a5, a6, a7, a8, a9, a10⟩ := c
  obtain ⟨b0, b1, b2, b3, b4, b5, b6, b7, b8, b9, b10⟩ := d
  simp only [Cfg.mk.injEq, and_assoc]

/-- Two configurations in the blocks g and h. -/
def TwoC (g : Nat) (c : Cfg) (pa : Option Addr) (pn pc : Nat) (sa : Option Addr) (sn sc : Nat) (h : Nat) (d : Cfg) (qa : Option Addr) (qn qc : Nat) (ta : Option Addr) (tn tc : Nat) (u : World) : Prop :=
  Eleven u g c pa pn pc sa sn sc ∧ Eleven u h d qa qn qc ta tn tc
/-- The two lists agree from place k on (they have one length). -/
def EqR (w : World) (t : Bool) (l l' : List T3) (i : Value) (wr : World) : Prop :=
  ∃ k : Nat, k ≤ l.length ∧ i = .int .i64 k ∧ t = decide (l.drop k = l'.drop k) ∧ Below w.heap.size w wr
def EqPR (w : World) (t : Bool) (l l' : List (List T3)) (i : Value) (wr : World) : Prop :=
  ∃ k : Nat, k ≤ l.length ∧ i = .int .i64 k ∧ t = decide (l.drop k = l'.drop k) ∧ Below w.heap.size w wr
end Go.Proofs.Ythiiidkkdlmneaa
