/-
  Slices of uint64 that a call reads. No function is named.
-/
import Derived.Test.YtjejnkkefkompaaMemSt
import Derived.Test.YtjejnkkefkompaaBel
namespace Go.Proofs.Ytjejnkkefkompaa
open Go Go.RowKit

/-- The slice (a, n) reads as the words X. -/
def InW (w : World) (a : Option Addr) (n : Nat) (X : List Int) : Prop :=
  X.length = n ∧ n ≤ maxLen ∧ ∀ i, i < n → ∃ x : Addr, a = some x ∧ x.block < w.heap.size ∧ w.cell? (x.add i) = some (.int .u64 (X.getD i 0))
theorem InW.below {w w' : World} {a : Option Addr} {n : Nat} {X : List Int} (h : InW w a n X) (hb : Below w.heap.size w w') : InW w' a n X :=
  ⟨h.1, h.2.1, fun i hi => by
    obtain ⟨x, e, hx, hc⟩ := h.2.2 i hi
    exact ⟨x, e, Nat.lt_of_lt_of_le hx hb.size, (hb.cell (by rw [block_add]; exact hx)).trans hc⟩⟩
theorem InW.cell {w : World} {x : Addr} {n i : Nat} {X : List Int} (h : InW w (some x) n X) (hi : i < n) : w.cell? (x.add i) = some (.int .u64 (X.getD i 0)) := by
  obtain ⟨y, e, _, hc⟩ := h.2.2 i hi
  cases e
  exact hc
theorem Row.inW {w : World} {g n cap : Nat} {X : List Int} (h : Row w g n cap X) : InW w (some ⟨g, 0, none⟩) n X :=
  ⟨h.len, Nat.le_trans h.le h.max, fun i hi => ⟨_, rfl, h.lt, by
    have e : (⟨g, 0, none⟩ : Addr).add i = ⟨g, i, none⟩ := by unfold Addr.add; split <;> simp_all
    rw [e]
    exact h.cell hi⟩⟩
end Go.Proofs.Ytjejnkkefkompaa
