/-
  Plain mathematics of a deque as words. No function is named.
-/
import Derived.Test.YtclbkmhlgopcaaaMgAB
namespace Go.Proofs.Ytclbkmhlgopcaaa
open Go Go.RowKit
set_option linter.unusedSimpArgs false

/-- The cell of an index, in a deque from cell 2 on. -/
theorem ring2 (n : Nat) (hn : 1 ≤ n ∧ n ≤ 100) (i : Int) : ∃ r : Nat, r < n ∧ (r : Int) = i % n ∧ ringI 2 n i = ((2 + r : Nat) : Int) := by
  have h1 := Int.emod_nonneg i (show (n : Int) ≠ 0 by omega)
  have h2 := Int.emod_lt_of_pos i (show (0 : Int) < n by omega)
  refine ⟨(i % n).toNat, by omega, by omega, ?_⟩
  unfold ringI
  rw [if_neg (by omega)]
  unfold wrap64
  omega
/-- The words X are those of a deque whose indices begin with t, and which has the words l as entries. -/
structure DqX (X : List Int) (n t : Nat) (l : List Int) : Prop where
  top : X.getD 0 0 = t
  ent : ∀ i, i < l.length → X.getD (2 + (t + i) % n) 0 = l.getD i 0
theorem mod_ne {n a b : Nat} (h : a < b) (h' : b < a + n) : a % n ≠ b % n := by
  intro e
  have h1 := Nat.div_add_mod a n
  have h2 := Nat.div_add_mod b n
  have h3 : n * (b / n) = n * (a / n) + (b - a) := by omega
  have h4 : a / n < b / n := by
    rcases Nat.lt_or_ge (a / n) (b / n) with h | h
    · exact h
    · have := Nat.mul_le_mul_left n h
      omega
  have h5 : n * (a / n + 1) ≤ n * (b / n) := Nat.mul_le_mul_left n h4
  rw [Nat.mul_add] at h5
  omega
theorem DqX.put {X : List Int} {n t : Nat} {l : List Int} (h : DqX X n t l) (hX : X.length = n + 3) (hn : 1 ≤ n) (hl : l.length < n) (v : Int) : DqX (X.set (2 + (t + l.length) % n) v) n t (l ++ [v]) := by
  have hm := Nat.mod_lt (t + l.length) (show n > 0 by omega)
  refine ⟨?_, fun i hi => ?_⟩
  · rw [List.getD_eq_getElem?_getD, List.getElem?_set_ne (by omega), ← List.getD_eq_getElem?_getD]
    exact h.top
  · rw [List.length_append] at hi
    simp only [List.length_cons, List.length_nil, Nat.zero_add] at hi
    by_cases hil : i < l.length
    · have hne := mod_ne (n := n) (a := t + i) (b := t + l.length) (by omega) (by omega)
      rw [List.getD_eq_getElem?_getD, List.getElem?_set_ne (by omega), ← List.getD_eq_getElem?_getD, h.ent i hil, List.getD_eq_getElem?_getD, List.getD_eq_getElem?_getD, List.getElem?_append_left hil]
    · obtain rfl : i = l.length := by omega
      rw [List.getD_eq_getElem?_getD, List.getElem?_set_self (by omega), List.getD_eq_getElem?_getD, List.getElem?_append_right (Nat.le_refl _), Nat.sub_self]
      rfl

end Go.Proofs.Ytclbkmhlgopcaaa
