/-
  The reference's Size and Ring.
  Words for opening a law's arguments, whatever their types.
-/
import Derived.Test.YthiiidkkdlmneaaMgAF
import Derived.Lib.Hide
import Derived.Deep.QuietTactic
import Derived.BigQuiet
import Derived.Deep.CutRange
import Derived.Test.YthiiidkkdlmneaaRows
import Derived.WalkKit
import Derived.ProofKit
import Derived.OpenShut
import Derived.ShutString
import Derived.ChangeOld
import Derived.Deep.Slices
import Derived.Deep.Fields
namespace Go.Proofs.Ythiiidkkdlmneaa
open Go Go.RowKit
set_option linter.unusedSimpArgs false

theorem size_any (b t : Int) (w : World) : Calls Try.prog 24 #[.int .u64 b, .int .u64 t] w fun e w' => e = .returned (.int .i64 (sizeI b t)) ∧ w = w' := by
  go_enter Try.func24, Try.ntmps24
  go_wp2
  go_ret
  exact ⟨rfl, rfl⟩
theorem ring_any (t b r k i : Int) (hi : 0 ≤ i) (hk : k ≤ 9223372036854775807) (w : World) : Calls Try.prog 26 #[qv t b r k, .int .u64 i] w fun e w' => e = .returned (.int .i64 (ringI r k i)) ∧ Below w.heap.size w w' := by
  have HB := Lib.hid (below_one w (.cells #[.int .i64 t, .int .i64 b, .int .i64 r, .int .i64 k] 53))
  unfold ringI
  by_cases h1 : k < 1
  · rw [if_pos h1]
    go_enter Try.func26, Try.ntmps26
    go_wp2
    go_ret
    exact ⟨rfl, HB.out⟩
  · rw [if_neg h1]
    have hk1 : 1 ≤ k := by omega
    have s0 : IntKind.u64.wrap k = k := IntWalk.u64_in _ (by omega)
    go_enter Try.func26, Try.ntmps26
    go_wp2_with fail
    go_quiet (fail)
    go_wp2
    go_ret
    exact ⟨rfl, HB.out.trans ((below_drewN _ _).mono HB.out.size)⟩
end Go.Proofs.Ythiiidkkdlmneaa

namespace Go.Proofs.Ythiiidkkdlmneaa
open Go Go.ChangeShapes Go.WideShapes Go.ChangeAt Go.RowKit

theorem ownKnobs : ownKnob Try.prog.godebug = none := by kernel_rfl
theorem laidOut : laidOutB Try.prog = true := by kernel_rfl

theorem u64_nat {a : Int} (h : (Lit.int .u64 a).wf = true) : ∃ x : Nat, a = (x : Int) ∧ x < 18446744073709551616 := by
  simp only [Lit.wf, Bool.and_eq_true, decide_eq_true_eq] at h
  have h0 : IntKind.u64.min = 0 := rfl
  have h1 : IntKind.u64.max = 18446744073709551615 := rfl
  rw [h0, h1] at h
  exact ⟨a.toNat, by omega, by omega⟩

theorem i64_in {a : Int} (h : (Lit.int .i64 a).wf = true) : -9223372036854775808 ≤ a ∧ a ≤ 9223372036854775807 := by
  simp only [Lit.wf, Bool.and_eq_true, decide_eq_true_eq] at h
  have h0 : IntKind.i64.min = -9223372036854775808 := rfl
  have h1 : IntKind.i64.max = 9223372036854775807 := rfl
  rw [h0, h1] at h
  exact h

theorem u8_in {a : Int} (h : (Lit.int .u8 a).wf = true) : 0 ≤ a ∧ a ≤ 255 := by
  simp only [Lit.wf, Bool.and_eq_true, decide_eq_true_eq] at h
  have h0 : IntKind.u8.min = 0 := rfl
  have h1 : IntKind.u8.max = 255 := rfl
  rw [h0, h1] at h
  exact h
end Go.Proofs.Ythiiidkkdlmneaa
