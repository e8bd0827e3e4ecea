/-
  Texts of events, as plain mathematics: the lines' words and fields, the line of an event, which events are valid.
-/
import Derived.Test.YtcjiikaiobomeaaDoorEv
import Derived.Lib.ItoaNum
namespace Go.Proofs.YtcjiikaiobomeaaDoor
open Go Go.RowKit
set_option linter.unusedSimpArgs false

/-- The word of each kind's lines, and the fields in them (1 the worker, 2 the task, 4 the other one, 8 the level). -/
def lineTab : List (List UInt8 × Nat) := [([], 0), ([97, 99, 99, 101, 112, 116], 15), ([114, 101, 106, 101, 99, 116], 13), ([115, 112, 97, 119, 110], 15), ([114, 101, 102, 117, 115, 101], 3), ([115, 116, 97, 114, 116], 3), ([98, 108, 111, 99, 107], 7), ([115, 101, 116, 116, 108, 101], 11), ([106, 111, 105, 110], 7), ([114, 101, 115, 117, 109, 101], 3), ([102, 105, 110, 105, 115, 104], 3), ([98, 111, 111, 115, 116], 11), ([97, 103, 101], 11), ([114, 101, 109, 111, 118, 101], 3), ([115, 116, 101, 97, 108], 15), ([115, 107, 105, 112], 3), ([112, 97, 114, 107], 1), ([117, 110, 112, 97, 114, 107], 5), ([119, 97, 107, 101], 5), ([110, 111, 114, 111, 111, 109], 11)]
def kindN (k : Int) : Nat := if 0 ≤ k ∧ k < 20 then k.toNat else 0
def wordK (k : Int) : List UInt8 := (lineTab.getD (kindN k) ([], 0)).1
def maskK (k : Int) : Nat := (lineTab.getD (kindN k) ([], 0)).2
def hasF (m i : Nat) : Bool := m / 2 ^ i % 2 == 1
def numsE (e : Ev) : List Int := [e.wk, e.tk, e.ot, e.lv]
def inF (m i : Nat) (v : Int) : Bool := decide (0 ≤ v) && decide (v ≤ if hasF m i = true then 256 else 0)
/-- Valid. -/
def validB (e : Ev) : Bool := !(wordK e.kd).isEmpty && (inF (maskK e.kd) 0 e.wk && (inF (maskK e.kd) 1 e.tk && (inF (maskK e.kd) 2 e.ot && inF (maskK e.kd) 3 e.lv)))
/-- The first k fields in their line. -/
def fieldsUp (e : Ev) : Nat → List UInt8
  | 0 => []
  | k + 1 => fieldsUp e k ++ (if hasF (maskK e.kd) k = true then 32 :: Lib.itoa ((numsE e).getD k 0) else [])
/-- The line of an event, without the line feed. -/
def lineB (e : Ev) : List UInt8 := wordK e.kd ++ fieldsUp e 4
def textB : List Ev → List UInt8
  | [] => []
  | e :: r => lineB e ++ 10 :: textB r
theorem textB_append : ∀ a b : List Ev, textB (a ++ b) = textB a ++ textB b
  | [], _ => rfl
  | e :: r, b => by simp [textB, textB_append r b]
theorem kindN_lt (k : Int) : kindN k < 20 := by
  unfold kindN
  split
  · omega
  · omega
theorem lineTab_all : ∀ k, k < 20 → (lineTab.getD k ([], 0)).2 < 16 ∧ (lineTab.getD k ([], 0)).1.length ≤ 6 := by decide
theorem maskK_lt (k : Int) : maskK k < 16 := (lineTab_all _ (kindN_lt k)).1
theorem wordK_len (k : Int) : (wordK k).length ≤ 6 := (lineTab_all _ (kindN_lt k)).2
theorem wordK_valid {e : Ev} (h : validB e = true) : wordK e.kd ≠ [] := by
  intro e'
  simp [validB, e'] at h
theorem validB_in {e : Ev} (h : validB e = true) : inF (maskK e.kd) 0 e.wk = true ∧ inF (maskK e.kd) 1 e.tk = true ∧ inF (maskK e.kd) 2 e.ot = true ∧ inF (maskK e.kd) 3 e.lv = true := by
  simp only [validB, Bool.and_eq_true] at h
  exact h.2
theorem inF_bd {m i : Nat} {v : Int} (h : inF m i v = true) : 0 ≤ v ∧ v ≤ 256 := by
  simp only [inF, Bool.and_eq_true, decide_eq_true_eq] at h
  obtain ⟨h1, h2⟩ := h
  split at h2 <;> omega
theorem numsE_bd {e : Ev} (h : validB e = true) (k : Nat) : 0 ≤ (numsE e).getD k 0 ∧ (numsE e).getD k 0 ≤ 256 := by
  obtain ⟨h0, h1, h2, h3⟩ := validB_in h
  match k with
  | 0 => exact inF_bd h0
  | 1 => exact inF_bd h1
  | 2 => exact inF_bd h2
  | 3 => exact inF_bd h3
  | k + 4 => simp [numsE]
theorem decDigits_len (u : Nat) (h : u ≤ 256) : (Lib.decDigits u).length ≤ 3 := by
  by_cases h1 : u < 10
  · rw [Lib.decDigits, dif_pos h1]
    simp
  · rw [Lib.decDigits, dif_neg h1]
    by_cases h2 : u / 10 < 10
    · rw [Lib.decDigits, dif_pos h2]
      simp
    · rw [Lib.decDigits, dif_neg h2, Lib.decDigits, dif_pos (by omega)]
      simp
theorem itoa_len {v : Int} (h0 : 0 ≤ v) (h1 : v ≤ 256) : (Lib.itoa v).length ≤ 3 := by
  rw [Lib.itoa, if_neg (by omega)]
  exact decDigits_len _ (by omega)
theorem fieldsUp_len {e : Ev} (h : validB e = true) : ∀ k, (fieldsUp e k).length ≤ 4 * k
  | 0 => Nat.le_refl _
  | k + 1 => by
    have := fieldsUp_len h k
    have h2 := numsE_bd h k
    have h3 := itoa_len h2.1 h2.2
    simp only [fieldsUp, List.length_append]
    split
    · simp only [List.length_cons]
      omega
    · simp only [List.length_nil]
      omega
theorem lineB_len {e : Ev} (h : validB e = true) : (lineB e).length ≤ 22 := by
  have h1 := fieldsUp_len h 4
  have h2 := wordK_len e.kd
  simp only [lineB, List.length_append]
  omega
theorem textB_len : ∀ {l : List Ev}, l.all validB = true → (textB l).length ≤ 23 * l.length
  | [], _ => Nat.le_refl _
  | e :: r, h => by
    simp only [List.all_cons, Bool.and_eq_true] at h
    have h1 := lineB_len h.1
    have h2 := textB_len h.2
    simp only [textB, List.length_append, List.length_cons]
    omega
end Go.Proofs.YtcjiikaiobomeaaDoor
