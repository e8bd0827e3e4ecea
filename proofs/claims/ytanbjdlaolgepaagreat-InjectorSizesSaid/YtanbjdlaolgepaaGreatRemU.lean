/-
  The reference's remove: one theorem over its lines.
-/
import Derived.Test.YtanbjdlaolgepaaGreatRemove8
namespace Go.Proofs.YtanbjdlaolgepaaGreat
open Go Go.RowKit
set_option linter.unusedSimpArgs false
set_option linter.unusedVariables false

section
variable {B p g o : Nat} {w : World} {pre post : List Value} {a : EnvA} {s : St} {es : List Ev} {rs : List Rec} {f : Fra}
theorem remove_any (hin : CfgIn a.c) (he : EnvF B w p a s es rs) (hf : FrameP w g o pre post f) (hB : B ≤ g) (hu : 0 ≤ f.fu ∧ f.fu < 18446744073709551616) (hes : es.length ≤ 900000) :
    Calls Tryz.prog 89 #[.pointer (some ⟨p, 0, none⟩), .pointer (some ⟨g, o, none⟩)] w (Line B p g o pre post a (removeS a.c s es f).2.2.2 (removeS a.c s es f).1 (removeS a.c s es f).2.1 rs (removeS a.c s es f).2.2.1 w) := by
  obtain ⟨U, hU⟩ : ∃ U : Nat, f.fu = (U : Int) := ⟨f.fu.toNat, by omega⟩
  have hb : U < 18446744073709551616 := by omega
  have hUU : f.fu % 65536 = (U : Int) % 65536 := by rw [hU]
  unfold removeS
  by_cases h1 : f.ln = 1
  · simp only [if_pos h1]
    by_cases hc : wrap64 (s.old 2) ≤ 0
    · simp only [if_pos hc]
      exact remove_1e he hf hB hin hU hb h1 (Lib.hid hc)
    · simp only [if_neg hc]
      exact remove_1 he hf hB hin hU hb h1 (Lib.hid hc)
  by_cases h2 : f.ln = 2
  · simp only [if_neg h1, if_pos h2]
    exact remove_2 he hf hB hin hU hb h2
  by_cases h3 : f.ln = 3
  · simp only [if_neg h1, if_neg h2, if_pos h3]
    exact remove_3 he hf hB hin hU hb h3
  by_cases h4 : f.ln = 4
  · simp only [if_neg h1, if_neg h2, if_neg h3, if_pos h4]
    by_cases hn : f.fn = 1
    · simp only [if_pos hn]
      have h := remove_4y he hf hB hin hU hb h4 hes (by simp [hn])
      rw [← hUU] at h
      exact h
    · simp only [if_neg hn]
      have h := remove_4n he hf hB hin hU hb h4 hes (by simp [hn])
      rw [← hUU] at h
      exact h
  by_cases h5 : f.ln = 5
  · simp only [if_neg h1, if_neg h2, if_neg h3, if_neg h4, if_pos h5]
    by_cases hc : wrap64 (f.fn - 1) ≤ wrap64 (wrap64 (2 * f.fi) + 2)
    · simp only [if_pos hc]
      exact remove_5l he hf hB hin hU hb h5 (Lib.hid hc)
    · simp only [if_neg hc]
      exact remove_5n he hf hB hin hU hb h5 (Lib.hid hc)
  by_cases h6 : f.ln = 6
  · simp only [if_neg h1, if_neg h2, if_neg h3, if_neg h4, if_neg h5, if_pos h6]
    by_cases hc : s.old (rSlot a.c (wrap64 (wrap64 (2 * f.fi) + 2))) < f.fw
    · simp only [if_pos hc]
      exact remove_6y he hf hB hin hU hb h6 (Lib.hid hc)
    · simp only [if_neg hc]
      exact remove_6n he hf hB hin hU hb h6 (Lib.hid hc)
  by_cases h7 : f.ln = 7
  · simp only [if_neg h1, if_neg h2, if_neg h3, if_neg h4, if_neg h5, if_neg h6, if_pos h7]
    exact remove_7 he hf hB hin hU hb h7
  · simp only [if_neg h1, if_neg h2, if_neg h3, if_neg h4, if_neg h5, if_neg h6, if_neg h7]
    have h := remove_8 he hf hB hin hU hb (by simp [h1]) (by simp [h2]) (by simp [h3]) (by simp [h4]) (by simp [h5]) (by simp [h6]) (by simp [h7])
    rw [← hUU] at h
    exact h
end
end Go.Proofs.YtanbjdlaolgepaaGreat
