/-
  Plain mathematics: every word of a memory and of a frame is one of 64 bits, and the lines of push, pop, steal, set and clear keep that. No function is named.
-/
import Derived.Test.YtmoblcfjplolgaaMgAO
namespace Go.Proofs.Ytmoblcfjplolgaa
open Go Go.RowKit
set_option linter.unusedSimpArgs false

/-- A word. -/
def uw (x : Int) : Prop := 0 ≤ x ∧ x < 18446744073709551616
theorem uw_wrap (x : Int) : uw (IntKind.u64.wrap x) := by
  rw [IntKind.wrap_u64]
  exact ⟨Int.emod_nonneg _ (by decide), Int.emod_lt_of_pos _ (by decide)⟩
theorem uw_zero : uw 0 := ⟨by decide, by decide⟩
/-- Every word of the memory is one. -/
def St.U (s : St) : Prop := ∀ i, uw (s.old i)
theorem St.U.n {s : St} (h : s.U) : s.N := fun i => (h i).1
theorem go_U {s : St} (h : s.U) (k i : Int) (F : Int → Int) (hF : ∀ x, uw x → uw (F x)) : (s.go k i F).U := by
  intro j
  by_cases hj : i = j
  · subst hj
    by_cases hi : s.has i
    · rw [go_old s k i F hi]
      exact hF _ (h i)
    · unfold St.go
      rw [if_neg hi]
      exact h i
  · rw [go_other s k i j F hj]
    exact h j
theorem U_of {s : St} (h : ∀ j, j < s.X.length → uw (s.X.getD j 0)) : s.U := by
  intro i
  unfold St.old
  split
  · rename_i hi
    have := hi.1
    have := hi.2
    exact h i.toNat (by omega)
  · exact uw_zero
/-- Every word of a frame is one. -/
def Fra.U (f : Fra) : Prop := uw f.fu ∧ uw f.fv ∧ uw f.fw ∧ uw f.fx
theorem fra1_U (kd t b r k a : Int) : (fra1 kd t b r k a).U := ⟨uw_zero, uw_zero, uw_zero, uw_zero⟩
/-- What a line keeps. -/
def KeepsU (stp : St → Fra → St × Fra × Res) : Prop := ∀ (s : St) (f : Fra), s.U → f.U → (stp s f).1.U ∧ (stp s f).2.1.U
theorem push_U : KeepsU pushS := by
  intro s f hs hf
  obtain ⟨hu, hv, hw, hx⟩ := hf
  unfold pushS
  split
  · exact ⟨go_U hs _ _ _ (fun x hx => hx), hs _, hv, hw, hx⟩
  split
  · split <;> exact ⟨go_U hs _ _ _ (fun x hx => hx), hu, hs _, hw, hx⟩
  split
  · exact ⟨go_U hs _ _ _ (fun x _ => uw_wrap _), hu, hv, hw, hx⟩
  · exact ⟨go_U hs _ _ _ (fun x _ => uw_wrap _), hu, hv, hw, hx⟩
theorem pop_U : KeepsU popS := by
  intro s f hs hf
  obtain ⟨hu, hv, hw, hx⟩ := hf
  unfold popS
  split
  · exact ⟨go_U hs _ _ _ (fun x hx => hx), hs _, hv, hw, hx⟩
  split
  · split <;> exact ⟨go_U hs _ _ _ (fun x hx => hx), hu, hs _, hw, hx⟩
  split
  · exact ⟨go_U hs _ _ _ (fun x _ => uw_wrap _), hu, hv, hw, hx⟩
  split
  · exact ⟨go_U hs _ _ _ (fun x hx => hx), hu, hs _, hw, hx⟩
  split
  · exact ⟨go_U hs _ _ _ (fun x hx => hx), hu, hv, hw, hx⟩
  split
  · refine ⟨go_U hs 3 f.qt (fun x => if x = f.fv then add1 f.fv else x) (fun x hx => ?_), hu, hv, hw, hx⟩
    show uw (if x = f.fv then add1 f.fv else x)
    split
    · exact uw_wrap _
    · exact hx
  split
  · exact ⟨go_U hs _ _ _ (fun x _ => hu), hu, hv, hw, hx⟩
  · exact ⟨go_U hs _ _ _ (fun x _ => hu), hu, hv, hw, hx⟩
theorem steal_U : KeepsU stealS := by
  intro s f hs hf
  obtain ⟨hu, hv, hw, hx⟩ := hf
  unfold stealS
  split
  · exact ⟨go_U hs _ _ _ (fun x hx => hx), hu, hs _, hw, hx⟩
  split
  · split <;> exact ⟨go_U hs _ _ _ (fun x hx => hx), hs _, hv, hw, hx⟩
  split
  · exact ⟨go_U hs _ _ _ (fun x hx => hx), hu, hv, hs _, hx⟩
  · refine ⟨go_U hs 3 f.qt (fun x => if x = f.fv then add1 f.fv else x) (fun x hx => ?_), hu, hv, hw, hx⟩
    show uw (if x = f.fv then add1 f.fv else x)
    split
    · exact uw_wrap _
    · exact hx
theorem set_U : KeepsU setS := by
  intro s f hs hf
  exact ⟨go_U hs _ _ _ (fun x _ => uw_wrap _), hf⟩
theorem clear_U : KeepsU clearS := by
  intro s f hs hf
  obtain ⟨hu, hv, hw, hx⟩ := hf
  unfold clearS
  split
  · exact ⟨go_U hs _ _ _ (fun x _ => uw_wrap _), hu, hv, hw, hx⟩
  split
  · exact ⟨go_U hs _ _ _ (fun x hx => hx), hs _, hv, hw, hx⟩
  split
  · split <;> exact ⟨go_U hs _ _ _ (fun x hx => hx), hu, hs _, hw, hx⟩
  · exact ⟨go_U hs _ _ _ (fun x _ => uw_wrap _), hu, hv, hw, hx⟩
end Go.Proofs.Ytmoblcfjplolgaa
