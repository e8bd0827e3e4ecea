/-
  Slices that came in, as the walks are told of them.
-/
import Derived.Test.YtbnaiogabcaboaaMemBase
namespace Go.Proofs.Ytbnaiogabcaboaa
open Go Go.RowKit

/-- The slice (a, n) reads as the numbers zs (uint64's). -/
def InRow (w : World) (a : Option Addr) (n : Nat) (zs : List Int) : Prop :=
  zs.length = n ∧ n ≤ maxLen ∧ ∀ i, i < n → ∃ x : Addr, a = some x ∧ x.block < w.heap.size ∧ w.cell? (x.add i) = some (.int .u64 (zs.getD i 0))

theorem InRow.below {w w' : World} {a : Option Addr} {n : Nat} {zs : List Int} (h : InRow w a n zs) (hb : Below w.heap.size w w') : InRow w' a n zs :=
  ⟨h.1, h.2.1, fun i hi => by
    obtain ⟨x, e, hx, hc⟩ := h.2.2 i hi
    refine ⟨x, e, Nat.lt_of_lt_of_le hx hb.size, ?_⟩
    rw [hb.cell (by rw [show (x.add i).block = x.block by unfold Addr.add; split <;> rfl]; exact hx)]
    exact hc⟩
/-- The slice (a, n) reads as n calls (Kind, Cell, V, W). -/
def InCalls (w : World) (a : Option Addr) (n : Nat) : Prop :=
  n ≤ maxLen ∧ ∀ i, i < n → ∃ (x : Addr) (k c v u : Int), a = some x ∧ x.block < w.heap.size ∧ w.cell? (x.add (i * 4 + 0)) = some (.int .i64 k) ∧ w.cell? (x.add (i * 4 + 1)) = some (.int .i64 c) ∧
    w.cell? (x.add (i * 4 + 2)) = some (.int .u64 v) ∧ w.cell? (x.add (i * 4 + 3)) = some (.int .u64 u)

theorem block_add (x : Addr) (i : Nat) : (x.add i).block = x.block := by unfold Addr.add; split <;> rfl

theorem InCalls.below {w w' : World} {a : Option Addr} {n : Nat} (h : InCalls w a n) (hb : Below w.heap.size w w') : InCalls w' a n :=
  ⟨h.1, fun i hi => by
    obtain ⟨x, k, c, v, u, e, hx, h0, h1, h2, h3⟩ := h.2 i hi
    have hc : ∀ j, w'.cell? (x.add j) = w.cell? (x.add j) := fun j => hb.cell (by rw [block_add]; exact hx)
    exact ⟨x, k, c, v, u, e, Nat.lt_of_lt_of_le hx hb.size, (hc _).trans h0, (hc _).trans h1, (hc _).trans h2, (hc _).trans h3⟩⟩
/-- A cell behind the head of a struct, as the walk spells it. -/
theorem cell_field {w : World} {x : Addr} {i j : Nat} {u : Value} (h : w.cell? (x.add (i + (j + 1))) = some u) : w.cell? ⟨(x.add i).block, (x.add i).off + (j + 1), none⟩ = some u := by
  have e : x.add (i + (j + 1)) = ⟨(x.add i).block, (x.add i).off + (j + 1), none⟩ := by
    unfold Addr.add
    by_cases hi : i = 0
    · subst hi
      simp
    · rw [if_neg (by omega), if_neg (by omega)]
      simp [Nat.add_assoc]
  rw [← e]
  exact h
end Go.Proofs.Ytbnaiogabcaboaa
