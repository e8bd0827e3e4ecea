/-
  Reading texts of events, as plain mathematics: cutting at a byte, the kind of a word, the event of a line, the events of a text.
-/
import Derived.Test.YtcjiikaiobomeaaDoorEvMath
import Derived.Lib.AtoiAll
import Derived.Lib.IndexMore
namespace Go.Proofs.YtcjiikaiobomeaaDoor
open Go Go.RowKit
set_option linter.unusedSimpArgs false

/-- A list cut at the first c. -/
def cutB (c : UInt8) : List UInt8 → List UInt8 × List UInt8 × Bool
  | [] => ([], [], false)
  | b :: l => if b = c then ([], l, true) else (b :: (cutB c l).1, (cutB c l).2.1, (cutB c l).2.2)
theorem index_one (c : UInt8) : ∀ s : List UInt8, (0 ≤ Lib.index s [c] → (s.take (Lib.index s [c]).toNat, s.drop ((Lib.index s [c]).toNat + 1), true) = cutB c s) ∧ (Lib.index s [c] < 0 → Lib.index s [c] = -1 ∧ (s, ([] : List UInt8), false) = cutB c s)
  | [] => by
    constructor
    · intro h
      simp [Lib.index] at h
    · intro h
      exact ⟨by simp [Lib.index], rfl⟩
  | b :: l => by
    obtain ⟨h1, h2⟩ := index_one c l
    by_cases hb : b = c
    · subst hb
      have e : Lib.index (b :: l) [b] = 0 := by simp [Lib.index]
      rw [e]
      exact ⟨fun _ => by simp [cutB], fun h => absurd h (by omega)⟩
    · have hp : ([c].isPrefixOf (b :: l)) = false := by
        simp [List.isPrefixOf]
        exact fun e => hb e.symm
      have hge := Lib.index_ge l [c]
      have e : Lib.index (b :: l) [c] = if Lib.index l [c] == -1 then -1 else Lib.index l [c] + 1 := by
        rw [Lib.index, hp]
        simp
      by_cases hn : Lib.index l [c] = -1
      · have e' : Lib.index (b :: l) [c] = -1 := by rw [e, hn]; rfl
        rw [e']
        refine ⟨fun h => absurd h (by omega), fun _ => ⟨rfl, ?_⟩⟩
        have := (h2 (by omega)).2
        simp only [cutB, if_neg hb, ← this]
      · have e' : Lib.index (b :: l) [c] = Lib.index l [c] + 1 := by rw [e, if_neg (by simpa using hn)]
        rw [e']
        refine ⟨fun _ => ?_, fun h => absurd h (by omega)⟩
        have := h1 (by omega)
        have ht : (Lib.index l [c] + 1).toNat = (Lib.index l [c]).toNat + 1 := by omega
        rw [ht]
        simp only [cutB, if_neg hb, ← this, List.take_succ_cons, List.drop_succ_cons]
theorem cut_one (c : UInt8) (s : List UInt8) : Lib.cut s [c] = cutB c s := by
  obtain ⟨h1, h2⟩ := index_one c s
  unfold Lib.cut
  by_cases h : 0 ≤ Lib.index s [c]
  · rw [if_pos h]
    exact h1 h
  · rw [if_neg h]
    exact (h2 (by omega)).2
theorem cutB_len (c : UInt8) : ∀ s : List UInt8, (cutB c s).1.length ≤ s.length ∧ (cutB c s).2.1.length ≤ s.length ∧ (s ≠ [] → (cutB c s).2.1.length < s.length)
  | [] => ⟨Nat.le_refl _, Nat.le_refl _, fun h => absurd rfl h⟩
  | b :: l => by
    obtain ⟨h1, h2, _⟩ := cutB_len c l
    by_cases hb : b = c
    · simp only [cutB, if_pos hb, List.length_cons, List.length_nil]
      exact ⟨by omega, by omega, fun _ => by omega⟩
    · simp only [cutB, if_neg hb, List.length_cons]
      exact ⟨by omega, by omega, fun _ => by omega⟩
/-- A part without c, then c. -/
theorem cutB_at (c : UInt8) : ∀ (a r : List UInt8), c ∉ a → cutB c (a ++ c :: r) = (a, r, true)
  | [], r, _ => by simp [cutB]
  | b :: a, r, h => by
    simp only [List.mem_cons, not_or] at h
    have hb : ¬ b = c := fun e => h.1 e.symm
    simp only [List.cons_append, cutB, if_neg hb, cutB_at c a r h.2]
theorem cutB_none (c : UInt8) : ∀ (a : List UInt8), c ∉ a → cutB c a = (a, [], false)
  | [], _ => rfl
  | b :: a, h => by
    simp only [List.mem_cons, not_or] at h
    have hb : ¬ b = c := fun e => h.1 e.symm
    simp only [cutB, if_neg hb, cutB_none c a h.2]

/-- The kind whose lines begin with a word. -/
def kindFrom (word : List UInt8) : Nat → List (List UInt8 × Nat) → Nat
  | _, [] => 0
  | k, p :: r => if p.1 = word then k else kindFrom word (k + 1) r
def kindB (word : List UInt8) : Nat := kindFrom word 0 lineTab
theorem kindFrom_step (word : List UInt8) : ∀ (l : List (List UInt8 × Nat)) (k i : Nat), (∀ j, j < i → (l.getD j ([], 0)).1 ≠ word) → i ≤ l.length → kindFrom word k l = kindFrom word (k + i) (l.drop i)
  | [], k, i, _, h => by
    have : i = 0 := by simpa using h
    subst this
    rfl
  | p :: r, k, 0, _, _ => rfl
  | p :: r, k, i + 1, h, hl => by
    have h0 := h 0 (by omega)
    simp only [List.getD_cons_zero] at h0
    have := kindFrom_step word r (k + 1) i (fun j hj => by simpa using h (j + 1) (by omega)) (by simpa using hl)
    simp only [kindFrom, if_neg h0, List.drop_succ_cons, this]
    congr 1
    omega
theorem kindB_hit {word : List UInt8} {k : Nat} (hk : k < 20) (h : ∀ j, j < k → (lineTab.getD j ([], 0)).1 ≠ word) (he : (lineTab.getD k ([], 0)).1 = word) : kindB word = k := by
  unfold kindB
  rw [kindFrom_step word lineTab 0 k h (by have : lineTab.length = 20 := rfl; omega), Nat.zero_add]
  have hl : lineTab.drop k = lineTab.getD k ([], 0) :: lineTab.drop (k + 1) := by
    have h20 : k < lineTab.length := by have : lineTab.length = 20 := rfl; omega
    rw [List.drop_eq_getElem_cons h20, List.getD_eq_getElem?_getD, List.getElem?_eq_getElem h20]
    rfl
  rw [hl]
  simp only [kindFrom, if_pos he]
theorem kindB_miss {word : List UInt8} (h : ∀ j, j < 20 → (lineTab.getD j ([], 0)).1 ≠ word) : kindB word = 0 := by
  unfold kindB
  rw [kindFrom_step word lineTab 0 20 h (by decide)]
  rfl
theorem kindB_lt (word : List UInt8) : kindB word < 20 := by
  by_cases h : ∀ j, j < 20 → (lineTab.getD j ([], 0)).1 ≠ word
  · rw [kindB_miss h]
    omega
  · -- the first that fits
    have : ∃ k, k < 20 ∧ (lineTab.getD k ([], 0)).1 = word ∧ ∀ j, j < k → (lineTab.getD j ([], 0)).1 ≠ word := by
      have h' : ∃ k, k < 20 ∧ (lineTab.getD k ([], 0)).1 = word := Classical.byContradiction fun hn => h (fun j hj e => hn ⟨j, hj, e⟩)
      obtain ⟨k, hk, he⟩ := h'
      induction k using Nat.strongRecOn with
      | ind k ih =>
        by_cases hq : ∃ j, j < k ∧ (lineTab.getD j ([], 0)).1 = word
        · obtain ⟨j, hj, hje⟩ := hq
          exact ih j hj (by omega) hje
        · exact ⟨k, hk, he, fun j hj e => hq ⟨j, hj, e⟩⟩
    obtain ⟨k, hk, he, hn⟩ := this
    rw [kindB_hit hk hn he]
    exact hk
/-- The numbers behind the word, after k places: what has been read, and the rest. -/
def gUp (m : Nat) (rest : List UInt8) : Nat → Option (List Int × List UInt8)
  | 0 => some ([], rest)
  | k + 1 =>
    match gUp m rest k with
    | none => none
    | some (l, r) => if hasF m k = true then (match Lib.atoiAll (cutB 32 r).1 with | .ok v => some (l ++ [v], (cutB 32 r).2.1) | _ => none) else some (l ++ [0], r)
theorem gUp_len {m : Nat} {rest : List UInt8} : ∀ {k : Nat} {l : List Int} {r : List UInt8}, gUp m rest k = some (l, r) → l.length = k ∧ r.length ≤ rest.length
  | 0, l, r, h => by
    simp only [gUp, Option.some.injEq, Prod.mk.injEq] at h
    obtain ⟨rfl, rfl⟩ := h
    exact ⟨rfl, Nat.le_refl _⟩
  | k + 1, l, r, h => by
    simp only [gUp] at h
    split at h
    · cases h
    · rename_i l0 r0 h0
      obtain ⟨h1, h2⟩ := gUp_len h0
      have h3 := (cutB_len 32 r0).2.1
      split at h
      · split at h
        · simp only [Option.some.injEq, Prod.mk.injEq] at h
          obtain ⟨rfl, rfl⟩ := h
          exact ⟨by simp [h1], by omega⟩
        · cases h
      · simp only [Option.some.injEq, Prod.mk.injEq] at h
        obtain ⟨rfl, rfl⟩ := h
        exact ⟨by simp [h1], h2⟩
theorem gUp_none {m : Nat} {rest : List UInt8} {k : Nat} (h : gUp m rest k = none) : ∀ j, gUp m rest (k + j) = none
  | 0 => h
  | j + 1 => by
    have := gUp_none h j
    rw [show k + (j + 1) = k + j + 1 by omega]
    simp only [gUp, this]
def evNil : Ev := ⟨0, 0, 0, 0, 0⟩
def evOf (kind : Int) (l : List Int) : Ev := ⟨kind, l.getD 0 0, l.getD 1 0, l.getD 2 0, l.getD 3 0⟩
def guessB (t : List UInt8) : Ev :=
  match gUp (maskK (kindB (cutB 32 t).1 : Int)) (cutB 32 t).2.1 4 with
  | some (l, _) => evOf (kindB (cutB 32 t).1 : Int) l
  | none => evNil
def readB (t : List UInt8) : Option Ev := if validB (guessB t) = true ∧ lineB (guessB t) = t then some (guessB t) else none
def mxE : Nat := 65536
def mxS : Nat := 4194304
theorem mxE_eq : mxE = 65536 := rfl
theorem mxS_eq : mxS = 4194304 := rfl
/-- One line of a text: the answer, or the events so far and the rest. -/
def parseStep (l : List Ev) (t : List UInt8) : (List Ev × Int × Int) ⊕ (List Ev × List UInt8) :=
  if t = [] then .inl (l, 0, 0)
  else if (cutB 10 t).2.2 = true then
    match readB (cutB 10 t).1 with
    | some e => if mxE < l.length + 1 then .inl ([], (l.length : Int) + 1, 2) else .inr (l ++ [e], (cutB 10 t).2.1)
    | none => .inl ([], (l.length : Int) + 1, 4)
  else .inl ([], (l.length : Int) + 1, 4)
theorem parseStep_nil (l : List Ev) : parseStep l [] = .inl (l, 0, 0) := by
  unfold parseStep
  rw [if_pos rfl]
theorem parseStep_bad {l : List Ev} {t : List UInt8} (ht : t ≠ []) (h : (cutB 10 t).2.2 = false ∨ readB (cutB 10 t).1 = none) : parseStep l t = .inl ([], (l.length : Int) + 1, 4) := by
  unfold parseStep
  rw [if_neg ht]
  rcases h with h | h
  · rw [h]
    rfl
  · rw [h]
    split <;> rfl
theorem parseStep_many {l : List Ev} {t : List UInt8} {e : Ev} (ht : t ≠ []) (h : (cutB 10 t).2.2 = true) (he : readB (cutB 10 t).1 = some e) (hl : mxE < l.length + 1) : parseStep l t = .inl ([], (l.length : Int) + 1, 2) := by
  unfold parseStep
  rw [if_neg ht, if_pos h, he]
  simp only [if_pos hl]
theorem parseStep_on {l : List Ev} {t : List UInt8} {e : Ev} (ht : t ≠ []) (h : (cutB 10 t).2.2 = true) (he : readB (cutB 10 t).1 = some e) (hl : ¬ mxE < l.length + 1) : parseStep l t = .inr (l ++ [e], (cutB 10 t).2.1) := by
  unfold parseStep
  rw [if_neg ht, if_pos h, he]
  simp only [if_neg hl]
attribute [local irreducible] parseStep
/-- The events of a text: fuel, the events so far, the rest. -/
def parseG : Nat → List Ev → List UInt8 → List Ev × Int × Int
  | 0, l, _ => (l, 0, 0)
  | n + 1, l, t =>
    match parseStep l t with
    | .inl r => r
    | .inr q => parseG n q.1 q.2
def parseR (t : List UInt8) : List Ev × Int × Int := if mxS < t.length then ([], 0, 2) else parseG (t.length + 1) [] t
theorem parseG_nil (n : Nat) (l : List Ev) : parseG n l [] = (l, 0, 0) := by
  cases n with
  | zero => simp only [parseG]
  | succ n => simp only [parseG, parseStep_nil]
theorem parseG_bad {n : Nat} {l : List Ev} {t : List UInt8} (ht : t ≠ []) (h : (cutB 10 t).2.2 = false ∨ readB (cutB 10 t).1 = none) : parseG (n + 1) l t = ([], (l.length : Int) + 1, 4) := by
  simp only [parseG, parseStep_bad ht h]
theorem parseG_many {n : Nat} {l : List Ev} {t : List UInt8} {e : Ev} (ht : t ≠ []) (h : (cutB 10 t).2.2 = true) (he : readB (cutB 10 t).1 = some e) (hl : mxE < l.length + 1) : parseG (n + 1) l t = ([], (l.length : Int) + 1, 2) := by
  simp only [parseG, parseStep_many ht h he hl]
theorem parseG_step {n : Nat} {l : List Ev} {t : List UInt8} {e : Ev} (ht : t ≠ []) (h : (cutB 10 t).2.2 = true) (he : readB (cutB 10 t).1 = some e) (hl : ¬ mxE < l.length + 1) : parseG (n + 1) l t = parseG n (l ++ [e]) (cutB 10 t).2.1 := by
  simp only [parseG, parseStep_on ht h he hl]
end Go.Proofs.YtcjiikaiobomeaaDoor
