/-
  Stage 11: well-formed operations of the reference. (Written by wip/gen_lin.py.)
-/
import Derived.Test.YtllllbepnnpeeaaMgBE
namespace Go.Proofs.Ytllllbepnnpeeaa
open Go Go.RowKit
set_option linter.unusedSimpArgs false
set_option linter.unusedVariables false

set_option maxRecDepth 100000 in
set_option maxHeartbeats 4000000 in
theorem rwf_any (x : OpR) (w : World) : Calls Try.prog 34 #[.agg (opC x)] w fun e w' => e = .returned (.bool (decide (WfO x))) ∧ Below w.heap.size w w' := by
  obtain ⟨k, m, a, b, c, v⟩ := x
  have hB := Lib.hid (below_one w (.cells (opC ⟨k, m, a, b, c, v⟩) 28))
  have hE := Blk.made w 28 (opC ⟨k, m, a, b, c, v⟩)
  have c0 := hE.at_ 0
  have c1 := hE.at_ 1
  have c2 := hE.at_ 2
  have c3 := hE.at_ 3
  have c4 := hE.at_ 4
  have c5 := hE.at_ 5
  clear hE
  by_cases n1 : a < 0
  · skip
    have g0 : decide (a < (0 : Int)) = true := by simp; omega
    have hR : decide (WfO ⟨k, m, a, b, c, v⟩) = false := by
      refine decide_eq_false fun h => ?_
      obtain ⟨h1, h2, h3, h4⟩ := h
      simp only [Formed] at h1 h2 h3 h4
      omega
    rw [hR]
    clear hR
    go_enter Try.func34, Try.ntmps34
    go_wp2
    go_ret
    exact ⟨rfl, hB.out⟩
  by_cases n2 : b < a
  · skip
    have g0 : decide (a < (0 : Int)) = false := by simp; omega
    have g1 : decide (b < a) = true := by simp; omega
    have hR : decide (WfO ⟨k, m, a, b, c, v⟩) = false := by
      refine decide_eq_false fun h => ?_
      obtain ⟨h1, h2, h3, h4⟩ := h
      simp only [Formed] at h1 h2 h3 h4
      omega
    rw [hR]
    clear hR
    go_enter Try.func34, Try.ntmps34
    go_wp2
    go_ret
    exact ⟨rfl, hB.out⟩
  by_cases n3 : m < 0
  · skip
    have g0 : decide (a < (0 : Int)) = false := by simp; omega
    have g1 : decide (b < a) = false := by simp; omega
    have g2 : decide (m < (0 : Int)) = true := by simp; omega
    have hR : decide (WfO ⟨k, m, a, b, c, v⟩) = false := by
      refine decide_eq_false fun h => ?_
      obtain ⟨h1, h2, h3, h4⟩ := h
      simp only [Formed] at h1 h2 h3 h4
      omega
    rw [hR]
    clear hR
    go_enter Try.func34, Try.ntmps34
    go_wp2
    go_ret
    exact ⟨rfl, hB.out⟩
  by_cases k0 : k = 0
  · subst k0
    by_cases d0 : c = 0
    · subst d0
      have g0 : decide (a < (0 : Int)) = false := by simp; omega
      have g1 : decide (b < a) = false := by simp; omega
      have g2 : decide (m < (0 : Int)) = false := by simp; omega
      have hR : decide (WfO ⟨0, m, a, b, 0, v⟩) = true := by
        exact decide_eq_true ⟨by simp [Formed], by show 0 ≤ m; omega, by show 0 ≤ a; omega, by show a ≤ b; omega⟩
      rw [hR]
      clear hR
      go_enter Try.func34, Try.ntmps34
      go_wp2
      go_ret
      exact ⟨rfl, hB.out⟩
    by_cases d3 : c = 3
    · subst d3
      have g0 : decide (a < (0 : Int)) = false := by simp; omega
      have g1 : decide (b < a) = false := by simp; omega
      have g2 : decide (m < (0 : Int)) = false := by simp; omega
      have hR : decide (WfO ⟨0, m, a, b, 3, v⟩) = true := by
        exact decide_eq_true ⟨by simp [Formed], by show 0 ≤ m; omega, by show 0 ≤ a; omega, by show a ≤ b; omega⟩
      rw [hR]
      clear hR
      go_enter Try.func34, Try.ntmps34
      go_wp2
      go_ret
      exact ⟨rfl, hB.out⟩
    · skip
      have g0 : decide (a < (0 : Int)) = false := by simp; omega
      have g1 : decide (b < a) = false := by simp; omega
      have g2 : decide (m < (0 : Int)) = false := by simp; omega
      have g3 : (c == (0 : Int)) = false := by simp; omega
      have g4 : (c == (3 : Int)) = false := by simp; omega
      have hR : decide (WfO ⟨0, m, a, b, c, v⟩) = false := by
        refine decide_eq_false fun h => ?_
        obtain ⟨h1, h2, h3, h4⟩ := h
        simp only [Formed] at h1 h2 h3 h4
        omega
      rw [hR]
      clear hR
      go_enter Try.func34, Try.ntmps34
      go_wp2
      go_ret
      exact ⟨rfl, hB.out⟩
  by_cases k1 : k = 1
  · subst k1
    by_cases d1 : c = 1
    · subst d1
      have g0 : decide (a < (0 : Int)) = false := by simp; omega
      have g1 : decide (b < a) = false := by simp; omega
      have g2 : decide (m < (0 : Int)) = false := by simp; omega
      have hR : decide (WfO ⟨1, m, a, b, 1, v⟩) = true := by
        exact decide_eq_true ⟨by simp [Formed], by show 0 ≤ m; omega, by show 0 ≤ a; omega, by show a ≤ b; omega⟩
      rw [hR]
      clear hR
      go_enter Try.func34, Try.ntmps34
      go_wp2
      go_ret
      exact ⟨rfl, hB.out⟩
    by_cases d2 : c = 2
    · subst d2
      have g0 : decide (a < (0 : Int)) = false := by simp; omega
      have g1 : decide (b < a) = false := by simp; omega
      have g2 : decide (m < (0 : Int)) = false := by simp; omega
      have hR : decide (WfO ⟨1, m, a, b, 2, v⟩) = true := by
        exact decide_eq_true ⟨by simp [Formed], by show 0 ≤ m; omega, by show 0 ≤ a; omega, by show a ≤ b; omega⟩
      rw [hR]
      clear hR
      go_enter Try.func34, Try.ntmps34
      go_wp2
      go_ret
      exact ⟨rfl, hB.out⟩
    · skip
      have g0 : decide (a < (0 : Int)) = false := by simp; omega
      have g1 : decide (b < a) = false := by simp; omega
      have g2 : decide (m < (0 : Int)) = false := by simp; omega
      have g3 : (c == (1 : Int)) = false := by simp; omega
      have g4 : (c == (2 : Int)) = false := by simp; omega
      have hR : decide (WfO ⟨1, m, a, b, c, v⟩) = false := by
        refine decide_eq_false fun h => ?_
        obtain ⟨h1, h2, h3, h4⟩ := h
        simp only [Formed] at h1 h2 h3 h4
        omega
      rw [hR]
      clear hR
      go_enter Try.func34, Try.ntmps34
      go_wp2
      go_ret
      exact ⟨rfl, hB.out⟩
  by_cases k2 : k = 2
  · subst k2
    by_cases d1 : c = 1
    · subst d1
      have g0 : decide (a < (0 : Int)) = false := by simp; omega
      have g1 : decide (b < a) = false := by simp; omega
      have g2 : decide (m < (0 : Int)) = false := by simp; omega
      have hR : decide (WfO ⟨2, m, a, b, 1, v⟩) = true := by
        exact decide_eq_true ⟨by simp [Formed], by show 0 ≤ m; omega, by show 0 ≤ a; omega, by show a ≤ b; omega⟩
      rw [hR]
      clear hR
      go_enter Try.func34, Try.ntmps34
      go_wp2
      go_ret
      exact ⟨rfl, hB.out⟩
    by_cases d2 : c = 2
    · subst d2
      have g0 : decide (a < (0 : Int)) = false := by simp; omega
      have g1 : decide (b < a) = false := by simp; omega
      have g2 : decide (m < (0 : Int)) = false := by simp; omega
      have hR : decide (WfO ⟨2, m, a, b, 2, v⟩) = true := by
        exact decide_eq_true ⟨by simp [Formed], by show 0 ≤ m; omega, by show 0 ≤ a; omega, by show a ≤ b; omega⟩
      rw [hR]
      clear hR
      go_enter Try.func34, Try.ntmps34
      go_wp2
      go_ret
      exact ⟨rfl, hB.out⟩
    by_cases d4 : c = 4
    · subst d4
      have g0 : decide (a < (0 : Int)) = false := by simp; omega
      have g1 : decide (b < a) = false := by simp; omega
      have g2 : decide (m < (0 : Int)) = false := by simp; omega
      have hR : decide (WfO ⟨2, m, a, b, 4, v⟩) = true := by
        exact decide_eq_true ⟨by simp [Formed], by show 0 ≤ m; omega, by show 0 ≤ a; omega, by show a ≤ b; omega⟩
      rw [hR]
      clear hR
      go_enter Try.func34, Try.ntmps34
      go_wp2
      go_ret
      exact ⟨rfl, hB.out⟩
    · skip
      have g0 : decide (a < (0 : Int)) = false := by simp; omega
      have g1 : decide (b < a) = false := by simp; omega
      have g2 : decide (m < (0 : Int)) = false := by simp; omega
      have g3 : (c == (1 : Int)) = false := by simp; omega
      have g4 : (c == (2 : Int)) = false := by simp; omega
      have g5 : (c == (4 : Int)) = false := by simp; omega
      have hR : decide (WfO ⟨2, m, a, b, c, v⟩) = false := by
        refine decide_eq_false fun h => ?_
        obtain ⟨h1, h2, h3, h4⟩ := h
        simp only [Formed] at h1 h2 h3 h4
        omega
      rw [hR]
      clear hR
      go_enter Try.func34, Try.ntmps34
      go_wp2
      go_ret
      exact ⟨rfl, hB.out⟩
  · skip
    have g0 : decide (a < (0 : Int)) = false := by simp; omega
    have g1 : decide (b < a) = false := by simp; omega
    have g2 : decide (m < (0 : Int)) = false := by simp; omega
    have g3 : (k == (0 : Int)) = false := by simp; omega
    have g4 : (k == (1 : Int)) = false := by simp; omega
    have g5 : (k == (2 : Int)) = false := by simp; omega
    have hR : decide (WfO ⟨k, m, a, b, c, v⟩) = false := by
      refine decide_eq_false fun h => ?_
      obtain ⟨h1, h2, h3, h4⟩ := h
      simp only [Formed] at h1 h2 h3 h4
      omega
    rw [hR]
    clear hR
    go_enter Try.func34, Try.ntmps34
    go_wp2
    go_ret
    exact ⟨rfl, hB.out⟩
end Go.Proofs.Ytllllbepnnpeeaa
