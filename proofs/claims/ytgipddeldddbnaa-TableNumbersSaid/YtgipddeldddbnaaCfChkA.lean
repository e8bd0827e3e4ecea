/-
  Contracts of within, in, numbersFit, numbers, valid, instr.
-/
import Derived.Test.YtgipddeldddbnaaCfBase
namespace Go.Proofs.Ytgipddeldddbnaa
open Go Go.RowKit

theorem inB_yes {v a b : Int} (h : a ≤ v) (h' : v ≤ b) : inB v a b = true := inB_iff.2 ⟨h, h'⟩
theorem within_any (v a b : Int) (w : World) : Calls Try.prog 32 #[.int .i64 v, .int .i64 a, .int .i64 b] w fun e w' => e = .returned (.bool (inB v a b)) ∧ w = w' := by
  have hu : inB v a b = (decide (a ≤ v) && decide (v ≤ b)) := by unfold inB; rfl
  rw [hu]
  go_enter Try.func32, Try.ntmps32
  go_wp2
  all_goals
    go_ret
    first
      | (simp_all; done)
      | (simp_all; omega)
def NumF (c : Cfg) (w : World) (e : Ending) (w' : World) : Prop := e = .returned (.bool (numsB c)) ∧ Below w.heap.size w w'

set_option maxHeartbeats 2000000 in
theorem numbersfit_any (c : Cfg) (pa : Option Addr) (pn pc : Nat) (sa : Option Addr) (sn sc : Nat) (w : World) :
    Calls Try.prog 27 #[cv c pa pn pc sa sn sc] w (NumF c w) := by
  go_enter Try.func27, Try.ntmps27
  go_wp2_with (go_at_call 32; refine (within_any _ _ _ _).mono ?_; rintro e w' ⟨rfl, rfl⟩)
  all_goals
    go_ret
    refine ⟨?_, below_one _ _⟩
    unfold numsB
    first
      | (rw [show min 8 c.le = 8 by omega]; simp [*]; done)
      | (rw [show min 8 c.le = c.le by omega]; simp [*]; done)
      | (simp [*]; done)

set_option maxHeartbeats 2000000 in
theorem valid_any (o p q : Int) (c : Cfg) (pa : Option Addr) (pn pc : Nat) (sa : Option Addr) (sn sc : Nat) (hl : 1 ≤ c.le) (hl' : c.le ≤ 64) (hn : pn ≤ 1000000) (w : World) :
    Calls Try.prog 33 #[.agg #[.int .i64 o, .int .i64 p, .int .i64 q], cv c pa pn pc sa sn sc] w fun e w' => e = .returned (.bool (insB pn c.le (o, p, q))) ∧ Below w.heap.size w w' := by
  have B0 : ∀ o1 o2, Below w.heap.size w ((w.alloc o1).alloc o2) := fun o1 o2 => (below_one w o1).alloc (by simp) o2
  by_cases h0 : o = 0
  · subst h0
    have e : insB pn c.le (0, p, q) = (inB p 1 64 && decide (q = 0)) := rfl
    rw [e]
    go_enter Try.func33, Try.ntmps33
    go_wp2_with (go_at_call 32; refine (within_any _ _ _ _).mono ?_; rintro e w' ⟨rfl, rfl⟩)
    all_goals
      go_ret
      refine ⟨?_, B0 _ _⟩
      first
        | (simp [*]; done)
        | (simp [*]; rfl)
  · have h0' : (o == 0) = false := by simpa using h0
    by_cases h1 : o = 1
    · subst h1
      have e : insB pn c.le (1, p, q) = (inB p 0 (pn - 1) && inB q 0 (c.le - 1)) := rfl
      rw [e]
      go_enter Try.func33, Try.ntmps33
      go_wp2_with (go_at_call 32; refine (within_any _ _ _ _).mono ?_; rintro e w' ⟨rfl, rfl⟩)
      all_goals
        go_ret
        refine ⟨?_, B0 _ _⟩
        first
          | (simp [*]; done)
          | (simp [*]; rfl)
    · have h1' : (o == 1) = false := by simpa using h1
      by_cases h2 : o = 2
      · subst h2
        have e : insB pn c.le (2, p, q) = (inB p 0 31 && decide (q = 0)) := rfl
        rw [e]
        go_enter Try.func33, Try.ntmps33
        go_wp2_with (go_at_call 32; refine (within_any _ _ _ _).mono ?_; rintro e w' ⟨rfl, rfl⟩)
        all_goals
          go_ret
          refine ⟨?_, B0 _ _⟩
          first
            | (simp [*]; done)
            | (simp [*]; rfl)
      · have h2' : (o == 2) = false := by simpa using h2
        have e : insB pn c.le (o, p, q) = false := by
          unfold insB
          rw [if_neg h0, if_neg h1, if_neg h2]
        rw [e]
        go_enter Try.func33, Try.ntmps33
        go_wp2
        go_ret
        exact ⟨rfl, B0 _ _⟩

end Go.Proofs.Ytgipddeldddbnaa
