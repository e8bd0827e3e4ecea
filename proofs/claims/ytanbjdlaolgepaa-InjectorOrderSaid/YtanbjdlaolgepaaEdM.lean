/-
  Plain mathematics of heaps: a hole that moves up or down a list. No function is named.
-/

namespace Go.Proofs.Ytanbjdlaolgepaa
set_option linter.unusedSimpArgs false
set_option linter.unusedVariables false

/-- Element i. -/
def elt (l : List Int) (i : Nat) : Int := l.getD i 0
theorem elt_set {l : List Int} {i j : Nat} {x : Int} (hi : i < l.length) : elt (l.set i x) j = if j = i then x else elt l j := by
  unfold elt
  rw [List.getD_eq_getElem?_getD, List.getD_eq_getElem?_getD, List.getElem?_set]
  by_cases h : i = j
  · subst h
    rw [if_pos rfl, if_pos hi, if_pos rfl]
    rfl
  · rw [if_neg h, if_neg (fun e => h e.symm)]
theorem elt_same {l : List Int} {i : Nat} {x : Int} (hi : i < l.length) : elt (l.set i x) i = x := by rw [elt_set hi, if_pos rfl]
theorem elt_other {l : List Int} {i j : Nat} {x : Int} (hj : j ≠ i) : elt (l.set i x) j = elt l j := by
  unfold elt
  rw [List.getD_eq_getElem?_getD, List.getD_eq_getElem?_getD, List.getElem?_set, if_neg (fun e => hj e.symm)]
theorem elt_mem {l : List Int} {i : Nat} (hi : i < l.length) : elt l i ∈ l := by
  unfold elt
  rw [List.getD_eq_getElem?_getD, List.getElem?_eq_getElem hi]
  exact List.getElem_mem hi

/-- k is put into the first place on the path from i upward whose parent isn't greater. -/
def riseE (l : List Int) (i : Nat) (k : Int) : List Int :=
  if h : i = 0 then l.set i k else if elt l ((i - 1) / 2) ≤ k then l.set i k else riseE (l.set i (elt l ((i - 1) / 2))) ((i - 1) / 2) k
termination_by i
decreasing_by omega
theorem riseE_end {l : List Int} {i : Nat} {k : Int} (h : i = 0 ∨ elt l ((i - 1) / 2) ≤ k) : riseE l i k = l.set i k := by
  rw [riseE]
  by_cases h0 : i = 0
  · rw [dif_pos h0]
  · rw [dif_neg h0, if_pos (h.resolve_left h0)]
theorem riseE_go {l : List Int} {i : Nat} {k : Int} (h0 : i ≠ 0) (h : ¬ elt l ((i - 1) / 2) ≤ k) : riseE l i k = riseE (l.set i (elt l ((i - 1) / 2))) ((i - 1) / 2) k := by
  rw [riseE, dif_neg h0, if_neg h]
/-- The lesser child of i in a list of n. -/
def lesserE (l : List Int) (i : Nat) : Nat := if 2 * i + 2 < l.length ∧ elt l (2 * i + 2) < elt l (2 * i + 1) then 2 * i + 2 else 2 * i + 1
theorem lesserE_is (l : List Int) (i : Nat) : lesserE l i = 2 * i + 1 ∨ (lesserE l i = 2 * i + 2 ∧ 2 * i + 2 < l.length) := by
  unfold lesserE
  split
  · exact .inr ⟨rfl, (by omega)⟩
  · exact .inl rfl
theorem lesserE_le {l : List Int} {i c : Nat} (hc : c = 2 * i + 1 ∨ c = 2 * i + 2) (hl : c < l.length) : elt l (lesserE l i) ≤ elt l c := by
  unfold lesserE
  split
  · rename_i h
    rcases hc with rfl | rfl
    · omega
    · exact Int.le_refl _
  · rename_i h
    rcases hc with rfl | rfl
    · exact Int.le_refl _
    · by_cases h2 : elt l (2 * i + 2) < elt l (2 * i + 1)
      · exact absurd ⟨hl, h2⟩ h
      · omega
/-- y is put into the first place on the path from i through lesser children that has no child less than y. -/
def sinkE (l : List Int) (i : Nat) (y : Int) : List Int :=
  if h : l.length ≤ 2 * i + 1 then l.set i y else if y ≤ elt l (lesserE l i) then l.set i y else sinkE (l.set i (elt l (lesserE l i))) (lesserE l i) y
termination_by l.length - i
decreasing_by
  have := lesserE_is l i
  rw [List.length_set]
  omega
theorem sinkE_end {l : List Int} {i : Nat} {y : Int} (h : l.length ≤ 2 * i + 1 ∨ y ≤ elt l (lesserE l i)) : sinkE l i y = l.set i y := by
  rw [sinkE]
  by_cases h0 : l.length ≤ 2 * i + 1
  · rw [dif_pos h0]
  · rw [dif_neg h0, if_pos (h.resolve_left h0)]
theorem sinkE_go {l : List Int} {i : Nat} {y : Int} (h0 : 2 * i + 1 < l.length) (h : ¬ y ≤ elt l (lesserE l i)) : sinkE l i y = sinkE (l.set i (elt l (lesserE l i))) (lesserE l i) y := by
  rw [sinkE, dif_neg (by omega), if_neg h]
theorem riseE_len (l : List Int) (i : Nat) (k : Int) : (riseE l i k).length = l.length := by
  induction i using Nat.strongRecOn generalizing l with
  | ind i ih =>
    by_cases h0 : i = 0 ∨ elt l ((i - 1) / 2) ≤ k
    · rw [riseE_end h0, List.length_set]
    · rw [riseE_go (fun e => h0 (.inl e)) (fun e => h0 (.inr e)), ih _ (by omega), List.length_set]
theorem sinkE_len (n : Nat) (l : List Int) (i : Nat) (y : Int) (hn : l.length - i ≤ n) : (sinkE l i y).length = l.length := by
  induction n generalizing l i with
  | zero => rw [sinkE_end (.inl (by omega)), List.length_set]
  | succ n ih =>
    by_cases h0 : l.length ≤ 2 * i + 1 ∨ y ≤ elt l (lesserE l i)
    · rw [sinkE_end h0, List.length_set]
    · have := lesserE_is l i
      rw [sinkE_go (by omega) (fun e => h0 (.inr e)), ih _ _ (by rw [List.length_set]; omega), List.length_set]

/-- The list behind a push, and behind a pop of one that isn't empty. -/
def pushE (h : List Int) (k : Int) : List Int := riseE (h ++ [0]) h.length k
def popE (h : List Int) : List Int := if h.length = 1 then [] else sinkE h.dropLast 0 (elt h (h.length - 1))
theorem pushE_len (h : List Int) (k : Int) : (pushE h k).length = h.length + 1 := by unfold pushE; rw [riseE_len]; simp
theorem popE_len (h : List Int) : (popE h).length = h.length - 1 := by
  unfold popE
  split
  · rename_i h1
    rw [h1]
    rfl
  · rw [sinkE_len _ _ _ _ (Nat.le_refl _), List.length_dropLast]

/-- No element is less than its parent. -/
def HeapE (l : List Int) : Prop := ∀ j, 0 < j → j < l.length → elt l ((j - 1) / 2) ≤ elt l j
instance (l : List Int) : Decidable (HeapE l) := decidable_of_iff (∀ j, j < l.length → 0 < j → elt l ((j - 1) / 2) ≤ elt l j) ⟨fun h j a b => h j b a, fun h j a b => h j b a⟩
theorem riseE_heap (l : List Int) (i : Nat) (k : Int) (hi : i < l.length)
    (h1 : ∀ j, 0 < j → j < l.length → j ≠ i → (j - 1) / 2 ≠ i → elt l ((j - 1) / 2) ≤ elt l j)
    (h2 : ∀ j, 0 < j → j < l.length → (j - 1) / 2 = i → k ≤ elt l j)
    (h3 : i ≠ 0 → ∀ j, 0 < j → j < l.length → (j - 1) / 2 = i → elt l ((i - 1) / 2) ≤ elt l j) : HeapE (riseE l i k) := by
  induction i using Nat.strongRecOn generalizing l with
  | ind i ih =>
    by_cases h0 : i = 0 ∨ elt l ((i - 1) / 2) ≤ k
    · rw [riseE_end h0]
      intro j hj hl
      rw [List.length_set] at hl
      rw [elt_set hi, elt_set hi]
      by_cases e : j = i
      · subst e
        rw [if_neg (by omega), if_pos rfl]
        exact h0.resolve_left (by omega)
      · rw [if_neg e]
        by_cases e2 : (j - 1) / 2 = i
        · rw [if_pos e2]
          exact h2 j hj hl e2
        · rw [if_neg e2]
          exact h1 j hj hl e e2
    · have hi0 : i ≠ 0 := fun e => h0 (.inl e)
      have hk : k < elt l ((i - 1) / 2) := by
        have : ¬ elt l ((i - 1) / 2) ≤ k := fun e => h0 (.inr e)
        omega
      rw [riseE_go hi0 (fun e => h0 (.inr e))]
      apply ih _ (by omega)
      · rw [List.length_set]
        omega
      · intro j hj hl e e2
        rw [List.length_set] at hl
        rw [elt_set hi, elt_set hi]
        by_cases e3 : j = i
        · exact absurd (by rw [e3]) e2
        · rw [if_neg e3]
          by_cases e4 : (j - 1) / 2 = i
          · rw [if_pos e4]
            exact h3 hi0 j hj hl e4
          · rw [if_neg e4]
            exact h1 j hj hl e3 e4
      · intro j hj hl e
        rw [List.length_set] at hl
        rw [elt_set hi]
        by_cases e3 : j = i
        · rw [if_pos e3]
          omega
        · rw [if_neg e3]
          have := h1 j hj hl e3 (by omega)
          rw [e] at this
          omega
      · intro hp j hj hl e
        rw [List.length_set] at hl
        have hpp : elt l (((i - 1) / 2 - 1) / 2) ≤ elt l ((i - 1) / 2) := h1 ((i - 1) / 2) (by omega) (by omega) (by omega) (by omega)
        rw [elt_set hi, elt_set hi, if_neg (by omega)]
        by_cases e3 : j = i
        · rw [if_pos e3]
          exact hpp
        · rw [if_neg e3]
          have := h1 j hj hl e3 (by omega)
          rw [e] at this
          omega
theorem elt_append {l r : List Int} {j : Nat} (h : j < l.length) : elt (l ++ r) j = elt l j := by
  unfold elt
  rw [List.getD_eq_getElem?_getD, List.getD_eq_getElem?_getD, List.getElem?_append_left h]
theorem elt_last (l : List Int) (x : Int) : elt (l ++ [x]) l.length = x := by
  unfold elt
  rw [List.getD_eq_getElem?_getD, List.getElem?_append_right (Nat.le_refl _)]
  simp
theorem elt_dropLast {l : List Int} {j : Nat} (h : j < l.length - 1) : elt l.dropLast j = elt l j := by
  unfold elt
  rw [List.getD_eq_getElem?_getD, List.getD_eq_getElem?_getD, List.getElem?_dropLast, if_pos h]
theorem pushE_heap {h : List Int} {k : Int} (hh : HeapE h) : HeapE (pushE h k) := by
  unfold pushE
  apply riseE_heap
  · simp
  · intro j hj hl e e2
    simp only [List.length_append, List.length_cons, List.length_nil] at hl
    rw [elt_append (by omega), elt_append (by omega)]
    exact hh j hj (by omega)
  · intro j hj hl e
    simp only [List.length_append, List.length_cons, List.length_nil] at hl
    omega
  · intro _ j hj hl e
    simp only [List.length_append, List.length_cons, List.length_nil] at hl
    omega
theorem sinkE_heap (n : Nat) (l : List Int) (i : Nat) (y : Int) (hn : l.length - i ≤ n) (hi : i < l.length)
    (h1 : ∀ j, 0 < j → j < l.length → j ≠ i → (j - 1) / 2 ≠ i → elt l ((j - 1) / 2) ≤ elt l j)
    (h2 : i ≠ 0 → elt l ((i - 1) / 2) ≤ y)
    (h3 : i ≠ 0 → ∀ j, 0 < j → j < l.length → (j - 1) / 2 = i → elt l ((i - 1) / 2) ≤ elt l j) : HeapE (sinkE l i y) := by
  induction n generalizing l i with
  | zero => omega
  | succ n ih =>
    by_cases h0 : l.length ≤ 2 * i + 1 ∨ y ≤ elt l (lesserE l i)
    · rw [sinkE_end h0]
      intro j hj hl
      rw [List.length_set] at hl
      rw [elt_set hi, elt_set hi]
      by_cases e : j = i
      · subst e
        rw [if_neg (by omega), if_pos rfl]
        exact h2 (by omega)
      · rw [if_neg e]
        by_cases e2 : (j - 1) / 2 = i
        · rw [if_pos e2]
          have hy := h0.resolve_left (by omega)
          have := lesserE_le (l := l) (i := i) (c := j) (by omega) hl
          omega
        · rw [if_neg e2]
          exact h1 j hj hl e e2
    · have hc := lesserE_is l i
      have hle := fun c h1 h2 => lesserE_le (l := l) (i := i) (c := c) h1 h2
      have hy : elt l (lesserE l i) < y := by
        have : ¬ y ≤ elt l (lesserE l i) := fun e => h0 (.inr e)
        omega
      rw [sinkE_go (by omega) (fun e => h0 (.inr e))]
      generalize lesserE l i = c at *
      have hcl : c < l.length := by omega
      have hpc : (c - 1) / 2 = i := by omega
      apply ih
      · rw [List.length_set]
        omega
      · rw [List.length_set]
        omega
      · intro j hj hl e e2
        rw [List.length_set] at hl
        rw [elt_set hi, elt_set hi]
        by_cases e3 : j = i
        · rw [if_neg (by omega), if_pos e3, e3]
          exact h3 (by omega) c (by omega) hcl hpc
        · rw [if_neg e3]
          by_cases e4 : (j - 1) / 2 = i
          · rw [if_pos e4]
            exact hle j (by omega) hl
          · rw [if_neg e4]
            exact h1 j hj hl e3 e4
      · intro _
        rw [hpc, elt_same hi]
        omega
      · intro _ j hj hl e
        rw [List.length_set] at hl
        rw [hpc, elt_same hi, elt_other (by omega)]
        have := h1 j hj hl (by omega) (by omega)
        rw [e] at this
        exact this
theorem popE_heap {h : List Int} (hh : HeapE h) : HeapE (popE h) := by
  unfold popE
  split
  · intro j hj hl
    exact absurd hl (by simp)
  · by_cases h0 : h.length = 0
    · have : h = [] := List.eq_nil_of_length_eq_zero h0
      subst this
      intro j hj hl
      rw [sinkE_len _ _ _ _ (Nat.le_refl _)] at hl
      exact absurd hl (by simp)
    apply sinkE_heap _ _ _ _ (Nat.le_refl _)
    · rw [List.length_dropLast]
      omega
    · intro j hj hl e e2
      rw [List.length_dropLast] at hl
      rw [elt_dropLast (by omega), elt_dropLast (by omega)]
      exact hh j hj (by omega)
    · intro e
      exact absurd rfl e
    · intro e
      exact absurd rfl e
/-- A least element lies first. -/
theorem heap_min {l : List Int} (h : HeapE l) (j : Nat) (hj : j < l.length) : elt l 0 ≤ elt l j := by
  induction j using Nat.strongRecOn with
  | ind j ih =>
    by_cases h0 : j = 0
    · subst h0
      exact Int.le_refl _
    · have := ih ((j - 1) / 2) (by omega) (by omega)
      have := h j (by omega) hj
      omega
/-- What bounds the elements bounds them when the hole has moved. -/
theorem sinkE_all (P : Int → Prop) (n : Nat) (l : List Int) (i : Nat) (y : Int) (hn : l.length - i ≤ n) (hi : i < l.length) (h : ∀ j, j < l.length → P (elt l j)) (hy : P y) : ∀ j, j < l.length → P (elt (sinkE l i y) j) := by
  induction n generalizing l i with
  | zero => omega
  | succ n ih =>
    intro j hj
    by_cases h0 : l.length ≤ 2 * i + 1 ∨ y ≤ elt l (lesserE l i)
    · rw [sinkE_end h0, elt_set hi]
      split
      · exact hy
      · exact h j hj
    · have hc := lesserE_is l i
      rw [sinkE_go (by omega) (fun e => h0 (.inr e))]
      refine ih _ _ (by rw [List.length_set]; omega) (by rw [List.length_set]; omega) (fun x hx => ?_) j (by rw [List.length_set]; exact hj)
      rw [List.length_set] at hx
      rw [elt_set hi]
      split
      · exact h _ (by omega)
      · exact h x hx
theorem riseE_all (P : Int → Prop) (l : List Int) (i : Nat) (k : Int) (hi : i < l.length) (h : ∀ j, j < l.length → j ≠ i → P (elt l j)) (hk : P k) : ∀ j, j < l.length → P (elt (riseE l i k) j) := by
  induction i using Nat.strongRecOn generalizing l with
  | ind i ih =>
    intro j hj
    by_cases h0 : i = 0 ∨ elt l ((i - 1) / 2) ≤ k
    · rw [riseE_end h0, elt_set hi]
      split
      · exact hk
      · exact h j hj (by omega)
    · rw [riseE_go (fun e => h0 (.inl e)) (fun e => h0 (.inr e))]
      refine ih _ (by omega) _ (by rw [List.length_set]; omega) (fun x hx hn => ?_) j (by rw [List.length_set]; exact hj)
      rw [List.length_set] at hx
      rw [elt_set hi]
      split
      · exact h _ (by omega) (by omega)
      · exact h x hx (by omega)
theorem popE_all (P : Int → Prop) {h : List Int} (ha : ∀ j, j < h.length → P (elt h j)) : ∀ j, j < h.length - 1 → P (elt (popE h) j) := by
  intro j hj
  unfold popE
  rw [if_neg (by omega)]
  refine sinkE_all P _ _ _ _ (Nat.le_refl _) (by rw [List.length_dropLast]; omega) (fun x hx => ?_) (ha _ (by omega)) j (by rw [List.length_dropLast]; exact hj)
  rw [List.length_dropLast] at hx
  rw [elt_dropLast hx]
  exact ha x (by omega)
theorem pushE_all (P : Int → Prop) {h : List Int} {k : Int} (ha : ∀ j, j < h.length → P (elt h j)) (hk : P k) : ∀ j, j < h.length + 1 → P (elt (pushE h k) j) := by
  intro j hj
  unfold pushE
  refine riseE_all P _ _ _ (by simp) (fun x hx hn => ?_) hk j (by simpa using hj)
  simp only [List.length_append, List.length_cons, List.length_nil] at hx
  rw [elt_append (by omega)]
  exact ha x (by omega)
theorem pop_min {h : List Int} (hh : HeapE h) (j : Nat) (hj : j < h.length - 1) : elt h 0 ≤ elt (popE h) j :=
  popE_all (fun x => elt h 0 ≤ x) (fun x hx => heap_min hh x hx) j hj
/-- Two lists with the same elements. -/
theorem elt_ext {a b : List Int} (hl : a.length = b.length) (h : ∀ j, j < a.length → elt a j = elt b j) : a = b := by
  apply List.ext_getElem hl
  intro i h1 h2
  have := h i h1
  unfold elt at this
  rw [List.getD_eq_getElem?_getD, List.getD_eq_getElem?_getD, List.getElem?_eq_getElem h1, List.getElem?_eq_getElem h2] at this
  exact this
theorem all_of_elt {P : Int → Prop} {l : List Int} (h : ∀ j, j < l.length → P (elt l j)) : ∀ x ∈ l, P x := by
  intro x hx
  obtain ⟨i, hi, rfl⟩ := List.mem_iff_getElem.1 hx
  have := h i hi
  unfold elt at this
  rw [List.getD_eq_getElem?_getD, List.getElem?_eq_getElem hi] at this
  exact this
theorem elt_of_all {P : Int → Prop} {l : List Int} (h : ∀ x ∈ l, P x) : ∀ j, j < l.length → P (elt l j) := fun j hj => h _ (elt_mem hj)
end Go.Proofs.Ytanbjdlaolgepaa
