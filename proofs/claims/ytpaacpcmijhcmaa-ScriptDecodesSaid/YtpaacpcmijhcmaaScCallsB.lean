/-
  Contracts of hasValue, valid and the reference's Valid; of the reference's Same and Complete.
-/
import Derived.Test.YtpaacpcmijhcmaaScCallsA
namespace Go.Proofs.Ytpaacpcmijhcmaa
open Go Go.RowKit

/-- An entry is valid. -/
def okE (e : Int × Int) : Bool := decide (((e.1 = 0 ∨ e.1 = 2) ∧ 0 ≤ e.2 ∧ e.2 ≤ 255) ∨ ((e.1 = 1 ∨ e.1 = 3) ∧ e.2 = 0))

theorem hasvalue_any (k v : Int) (w : World) : Calls Try.prog 27 #[.agg #[.int .i64 k, .int .i64 v]] w (Gives (.bool (decide (k = 0 ∨ k = 2))) w) := by
  by_cases h0 : k = 0
  · subst h0
    go_enter Try.func27, Try.ntmps27
    go_wp2
    go_ret
    exact ⟨rfl, below_one _ _⟩
  · by_cases h2 : k = 2
    · subst h2
      go_enter Try.func27, Try.ntmps27
      go_wp2
      go_ret
      exact ⟨rfl, below_one _ _⟩
    · rw [decide_eq_false (by omega)]
      have h0' : (k == 0) = false := by simpa using h0
      have h2' : (k == 2) = false := by simpa using h2
      go_enter Try.func27, Try.ntmps27
      go_wp2
      go_ret
      exact ⟨rfl, below_one _ _⟩

theorem valid_any (k v : Int) (w : World) : Calls Try.prog 28 #[.agg #[.int .i64 k, .int .i64 v]] w (Gives (.bool (okE (k, v))) w) := by
  by_cases h0 : k = 0 ∨ k = 2
  · obtain ⟨b, hb⟩ : ∃ b, okE (k, v) = b := ⟨_, rfl⟩
    rw [hb]
    have hv : b = (decide (0 ≤ v) && decide (v ≤ 255)) := by
      rw [← hb]
      unfold okE
      have : ¬ (k = 1 ∨ k = 3) := by omega
      simp [h0, this]
    subst hv
    have HB := Lib.hid hb
    clear hb
    go_enter Try.func28, Try.ntmps28
    go_wp2_with fail
    refine (hasvalue_any k v _).mono ?_
    rintro e w1 ⟨rfl, hb1⟩
    have hB := (Blk.made w 43 #[.int .i64 k, .int .i64 v]).of_same (hb1.block w.heap.size (by simp))
    have c1 : w1.cell? ⟨w.heap.size, 1, none⟩ = some (.int .i64 v) := hB.at_ 1
    have hb' := Lib.hid ((below_one w _).trans (hb1.mono (by simp)))
    clear hb1
    rw [decide_eq_true h0]
    clear h0 HB
    by_cases hv0 : 0 ≤ v
    · by_cases hv1 : v ≤ 255
      · go_wp2
        go_ret
        exact ⟨by rw [decide_eq_true hv0, decide_eq_true hv1]; rfl, hb'.out⟩
      · go_wp2
        go_ret
        exact ⟨by rw [decide_eq_true hv0]; rfl, hb'.out⟩
    · go_wp2
      go_ret
      exact ⟨by rw [decide_eq_false (show ¬ (0 ≤ v) by omega)]; rfl, hb'.out⟩
  · have hd : decide (k = 0 ∨ k = 2) = false := decide_eq_false h0
    by_cases h1 : k = 1 ∨ k = 3
    · have hv : okE (k, v) = (v == 0) := by
        unfold okE
        by_cases hv : v = 0 <;> simp [h0, h1, hv]
      rw [hv]
      clear hv
      rcases h1 with rfl | rfl
      all_goals
        go_enter Try.func28, Try.ntmps28
        go_wp2_with fail
        refine (hasvalue_any _ v _).mono ?_
        rintro e w1 ⟨rfl, hb1⟩
        have hB := (Blk.made w 43 #[.int .i64 _, .int .i64 v]).of_same (hb1.block w.heap.size (by simp))
        have c0 := hB.at_ 0
        have c1 := hB.at_ 1
        have hb' := Lib.hid ((below_one w _).trans (hb1.mono (by simp)))
        clear hb1 h0
        rw [hd]
        simp only [List.getElem?_toArray, List.getElem?_cons_zero, List.getElem?_cons_succ] at c0 c1
        go_wp2
        go_ret
        exact ⟨rfl, hb'.out⟩
    · have hv : okE (k, v) = false := by
        unfold okE
        simp [h0, h1]
      rw [hv]
      clear hv
      have h1' : (k == 1) = false := by simp; omega
      have h3' : (k == 3) = false := by simp; omega
      go_enter Try.func28, Try.ntmps28
      go_wp2_with fail
      refine (hasvalue_any k v _).mono ?_
      rintro e w1 ⟨rfl, hb1⟩
      have hB := (Blk.made w 43 #[.int .i64 k, .int .i64 v]).of_same (hb1.block w.heap.size (by simp))
      have c0 : w1.cell? ⟨w.heap.size, 0, none⟩ = some (.int .i64 k) := hB.at_ 0
      have c1 : w1.cell? ⟨w.heap.size, 1, none⟩ = some (.int .i64 v) := hB.at_ 1
      have hb' := Lib.hid ((below_one w _).trans (hb1.mono (by simp)))
      clear hb1 h0 h1
      rw [hd]
      go_wp2
      go_ret
      exact ⟨rfl, hb'.out⟩

theorem rvalid_any (k v : Int) (w : World) : Calls Try.prog 29 #[.agg #[.int .i64 k, .int .i64 v]] w (Gives (.bool (okE (k, v))) w) := by
  by_cases h0 : k = 0 ∨ k = 2
  · have hv : okE (k, v) = (decide (0 ≤ v) && decide (v ≤ 255)) := by
      unfold okE
      have : ¬ (k = 1 ∨ k = 3) := by omega
      simp [h0, this]
    rw [hv]
    clear hv
    by_cases hv0 : 0 ≤ v
    · by_cases hv1 : v ≤ 255
      · rw [decide_eq_true hv0, decide_eq_true hv1]
        rcases h0 with rfl | rfl
        all_goals
          go_enter Try.func29, Try.ntmps29
          go_wp2
          go_ret
          exact ⟨rfl, below_one _ _⟩
      · rw [decide_eq_true hv0, decide_eq_false hv1]
        rcases h0 with rfl | rfl
        all_goals
          go_enter Try.func29, Try.ntmps29
          go_wp2
          go_ret
          exact ⟨rfl, below_one _ _⟩
    · rw [decide_eq_false hv0]
      rcases h0 with rfl | rfl
      all_goals
        go_enter Try.func29, Try.ntmps29
        go_wp2
        go_ret
        exact ⟨rfl, below_one _ _⟩
  · by_cases h1 : k = 1 ∨ k = 3
    · have hv : okE (k, v) = (v == 0) := by
        unfold okE
        by_cases hv : v = 0 <;> simp [h0, h1, hv]
      rw [hv]
      clear hv h0
      rcases h1 with rfl | rfl
      all_goals
        go_enter Try.func29, Try.ntmps29
        go_wp2
        go_ret
        exact ⟨rfl, below_one _ _⟩
    · have hv : okE (k, v) = false := by
        unfold okE
        simp [h0, h1]
      rw [hv]
      clear hv
      have h0' : (k == 0) = false := by simp; omega
      have h2' : (k == 2) = false := by simp; omega
      have h1' : (k == 1) = false := by simp; omega
      have h3' : (k == 3) = false := by simp; omega
      clear h0 h1
      go_enter Try.func29, Try.ntmps29
      go_wp2
      go_ret
      exact ⟨rfl, below_one _ _⟩
end Go.Proofs.Ytpaacpcmijhcmaa
