/-
  Pushes and pops keep the elements. No function is named.
-/
import Derived.Test.YtjejnkkefkompaaEdM
import Derived.Sort.Lot0
namespace Go.Proofs.Ytjejnkkefkompaa
set_option linter.unusedSimpArgs false
set_option linter.unusedVariables false

theorem hole_perm {l : List Int} {i p : Nat} {k : Int} (hi : i < l.length) (hp : p < l.length) (hne : p ≠ i) : ((l.set i (elt l p)).set p k).Perm (l.set i k) := by
  have h := Go.Sort.perm_set_set (l.set i k) i p (by simpa using hi) (by simpa using hp)
  have e1 : (l.set i k)[i]'(by simpa using hi) = k := by simp
  have e2 : (l.set i k)[p]'(by simpa using hp) = elt l p := by
    rw [List.getElem_set_ne (fun e => hne e.symm)]
    unfold elt
    rw [List.getD_eq_getElem?_getD, List.getElem?_eq_getElem hp]
    rfl
  rw [e1, e2, List.set_set] at h
  exact h
theorem riseE_perm (l : List Int) (i : Nat) (k : Int) (hi : i < l.length) : (riseE l i k).Perm (l.set i k) := by
  induction i using Nat.strongRecOn generalizing l with
  | ind i ih =>
    by_cases h0 : i = 0 ∨ elt l ((i - 1) / 2) ≤ k
    · rw [riseE_end h0]
    · have hi0 : i ≠ 0 := fun e => h0 (.inl e)
      rw [riseE_go hi0 (fun e => h0 (.inr e))]
      exact (ih _ (by omega) _ (by rw [List.length_set]; omega)).trans (hole_perm hi (by omega) (by omega))
theorem sinkE_perm (n : Nat) (l : List Int) (i : Nat) (y : Int) (hn : l.length - i ≤ n) (hi : i < l.length) : (sinkE l i y).Perm (l.set i y) := by
  induction n generalizing l i with
  | zero => omega
  | succ n ih =>
    by_cases h0 : l.length ≤ 2 * i + 1 ∨ y ≤ elt l (lesserE l i)
    · rw [sinkE_end h0]
    · have := lesserE_is l i
      have h1 : 2 * i + 1 < l.length := by omega
      rw [sinkE_go h1 (fun e => h0 (.inr e))]
      exact (ih _ _ (by rw [List.length_set]; omega) (by rw [List.length_set]; omega)).trans (hole_perm hi (by omega) (by omega))
theorem pushE_perm (h : List Int) (k : Int) : (pushE h k).Perm (h ++ [k]) := by
  unfold pushE
  refine (riseE_perm _ _ _ (by simp)).trans ?_
  rw [List.set_append_right _ _ (by omega), Nat.sub_self]
  exact List.Perm.refl _
theorem popE_perm {h : List Int} (h0 : 0 < h.length) : (elt h 0 :: popE h).Perm h := by
  unfold popE
  by_cases h1 : h.length = 1
  · rw [if_pos h1]
    obtain ⟨x, rfl⟩ := List.length_eq_one_iff.1 h1
    exact List.Perm.refl _
  · rw [if_neg h1]
    cases h with
    | nil => simp at h0
    | cons a t =>
      have ht : t ≠ [] := fun e => h1 (by rw [e]; rfl)
      obtain ⟨s, b, rfl⟩ : ∃ s b, t = s ++ [b] := ⟨t.dropLast, t.getLast ht, (List.dropLast_concat_getLast ht).symm⟩
      have e1 : (a :: (s ++ [b])).dropLast = a :: s := by rw [← List.cons_append, List.dropLast_concat]
      have e2 : elt (a :: (s ++ [b])) ((a :: (s ++ [b])).length - 1) = b := by
        have := elt_last (a :: s) b
        rw [← List.cons_append]
        rw [show ((a :: s) ++ [b]).length - 1 = (a :: s).length by simp]
        exact this
      rw [e1, e2]
      refine (List.Perm.cons _ (sinkE_perm _ _ _ _ (Nat.le_refl _) (by simp))).trans ?_
      show (a :: b :: s).Perm (a :: (s ++ [b]))
      exact List.Perm.cons _ (List.perm_append_singleton b s).symm
end Go.Proofs.Ytjejnkkefkompaa
