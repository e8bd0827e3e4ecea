/-
  Contract of the keep's Short with one list.
-/
import Derived.Test.YtpmdmeolehabjaaInts
import Derived.LoopTactic
import Derived.Lib.Hide
namespace Go.Proofs.Ytpmdmeolehabjaa
open Go Go.RowKit

theorem short_one {w : World} {g : Nat} {a2 : Option Addr} {n2 c2 : Nat} (h : w.cell? ⟨g, 0, none⟩ = some (.slice a2 n2 c2)) (a : Option Addr) (n c : Nat) :
    Calls Try.prog 5 #[.slice a n c, .slice (some ⟨g, 0, none⟩) 1 1] w fun e w' => e = .returned (.bool (decide ((n : Int) ≤ 400) && decide ((n2 : Int) ≤ 400))) ∧ w = w' := by
  obtain ⟨R, hR⟩ : ∃ R, (decide ((n : Int) ≤ 400) && decide ((n2 : Int) ≤ 400)) = R := ⟨_, rfl⟩
  rw [hR]
  have HR := Lib.hid hR
  clear hR
  go_enter Try.func5, Try.ntmps5
  go_wp2_with fail
  go_loopw [5] (fun i wr => wr = w ∧ (i = .int .i64 0 ∨ (i = .int .i64 1 ∧ (n2 : Int) ≤ 400))) (fun i _ => (2 - intOf i).toNat)
  case atStart => exact ⟨rfl, .inl rfl⟩
  case round =>
    obtain ⟨rfl, rfl | ⟨rfl, h4⟩⟩ := hrel
    · by_cases h4 : (n2 : Int) ≤ 400
      · go_wp2_with fail
        go_roundw
        case rel => exact ⟨trivial, .inr ⟨rfl, h4⟩⟩
        case measure => simp [intOf]
      · have hr : R = false := by
          rw [← HR.out, decide_eq_false h4, Bool.and_false]
        subst hr
        go_wp2
        go_ret
        exact ⟨rfl, rfl⟩
    · have hr : R = decide ((n : Int) ≤ 400) := by
        rw [← HR.out, decide_eq_true h4, Bool.and_true]
      subst hr
      go_wp2
      go_ret
      exact ⟨rfl, rfl⟩

end Go.Proofs.Ytpmdmeolehabjaa
