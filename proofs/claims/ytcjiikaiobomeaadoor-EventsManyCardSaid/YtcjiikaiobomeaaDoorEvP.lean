/-
  A text of valid events is parsed as these events, where each line is read as its event.
-/
import Derived.Test.YtcjiikaiobomeaaDoorEvF
namespace Go.Proofs.YtcjiikaiobomeaaDoor
open Go Go.RowKit
set_option linter.unusedSimpArgs false

/-- The line of an event is read as it, and holds no line feed. -/
def Reads (e : Ev) : Prop := readB (lineB e) = some e ∧ (10 : UInt8) ∉ lineB e
theorem parse_text : ∀ (l : List Ev), (∀ e ∈ l, Reads e) → ∀ (n : Nat) (es : List Ev), l.length < n → es.length ≤ mxE →
    parseG n es (textB l) = if es.length + l.length ≤ mxE then (es ++ l, 0, 0) else ([], (mxE : Int) + 1, 2)
  | [], _, n, es, _, he => by
    rw [textB, parseG_nil, if_pos (by simpa using he), List.append_nil]
  | e :: r, h, n, es, hn, he => by
    obtain ⟨m, rfl⟩ : ∃ m, n = m + 1 := ⟨n - 1, by simp at hn; omega⟩
    obtain ⟨h1, h2⟩ := h e List.mem_cons_self
    have hc : cutB 10 (textB (e :: r)) = (lineB e, textB r, true) := cutB_at 10 (lineB e) (textB r) h2
    have hne : textB (e :: r) ≠ [] := by simp [textB]
    by_cases hm : mxE < es.length + 1
    · rw [parseG_many (e := e) hne (by rw [hc]) (by rw [hc]; exact h1) hm, if_neg (by simp only [List.length_cons]; omega)]
      have : es.length = mxE := by omega
      rw [this]
    · rw [parseG_step (e := e) hne (by rw [hc]) (by rw [hc]; exact h1) hm, hc]
      have := parse_text r (fun x hx => h x (List.mem_cons_of_mem _ hx)) m (es ++ [e]) (by simp only [List.length_cons] at hn; omega) (by simp; omega)
      rw [this]
      have e1 : (es ++ [e]).length + r.length = es.length + (e :: r).length := by simp; omega
      rw [e1]
      simp
theorem textB_longer : ∀ l : List Ev, l.length ≤ (textB l).length
  | [] => Nat.le_refl _
  | e :: r => by
    have := textB_longer r
    simp only [textB, List.length_append, List.length_cons]
    omega
theorem parseR_text {l : List Ev} (h : ∀ e ∈ l, Reads e) (hs : (textB l).length ≤ mxS) : parseR (textB l) = if l.length ≤ mxE then (l, 0, 0) else ([], (mxE : Int) + 1, 2) := by
  unfold parseR
  rw [if_neg (by omega), parse_text l h _ [] (by have := textB_longer l; omega) (by simp)]
  simp
/-- The event of a worker that sleeps. -/
def parkE : Ev := ⟨16, 0, 0, 0, 0⟩
theorem park_line : lineB parkE = [112, 97, 114, 107, 32, 48] := by
  have h0 : Lib.itoa 0 = [48] := by
    rw [Lib.itoa, if_neg (by omega), Lib.decDigits, dif_pos (by decide)]
    rfl
  have hw : wordK 16 = [112, 97, 114, 107] := rfl
  have hm : maskK 16 = 1 := rfl
  have f0 : hasF 1 0 = true := rfl
  have f1 : hasF 1 1 = false := rfl
  have f2 : hasF 1 2 = false := rfl
  have f3 : hasF 1 3 = false := rfl
  simp [lineB, parkE, fieldsUp, hw, hm, f0, f1, f2, f3, numsE, h0]
theorem park_valid : validB parkE = true := by decide
theorem park_reads : Reads parkE := by
  refine ⟨?_, by rw [park_line]; decide⟩
  have hg : guessB [112, 97, 114, 107, 32, 48] = parkE := by
    have hc : cutB 32 [112, 97, 114, 107, 32, 48] = ([112, 97, 114, 107], [48], true) := by decide
    have hk : kindB [112, 97, 114, 107] = 16 := by decide
    have ha : Lib.atoiAll [48] = .ok 0 := by decide
    have hc2 : cutB 32 [48] = ([48], [], false) := by decide
    have hm : maskK 16 = 1 := rfl
    have f0 : hasF 1 0 = true := rfl
    have f1 : hasF 1 1 = false := rfl
    have f2 : hasF 1 2 = false := rfl
    have f3 : hasF 1 3 = false := rfl
    have hu : gUp 1 [48] 4 = some ([0, 0, 0, 0], []) := by simp [gUp, f0, f1, f2, f3, hc2, ha]
    have hk' : ((kindB [112, 97, 114, 107] : Nat) : Int) = 16 := by rw [hk]; rfl
    unfold guessB
    rw [hc, hk', hm, hu]
    rfl
  rw [park_line]
  unfold readB
  rw [hg, if_pos ⟨park_valid, park_line⟩]
theorem park_text (k : Nat) : textB (List.replicate (k + 1) parkE) = textB (List.replicate k parkE) ++ [112, 97, 114, 107, 32, 48, 10] := by
  rw [List.replicate_succ', textB_append]
  simp [textB, park_line]
theorem park_len : ∀ k, (textB (List.replicate k parkE)).length = 7 * k
  | 0 => rfl
  | k + 1 => by
    rw [park_text, List.length_append, park_len k]
    simp
    omega
theorem park_all (k : Nat) : (List.replicate k parkE).all validB = true := by
  rw [List.all_eq_true]
  intro x hx
  rw [List.eq_of_mem_replicate hx]
  exact park_valid
end Go.Proofs.YtcjiikaiobomeaaDoor
