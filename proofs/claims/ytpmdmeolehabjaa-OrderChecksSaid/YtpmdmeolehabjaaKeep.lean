/-
  Contract of the keep's Short without lists.
-/
import Derived.Test.YtpmdmeolehabjaaKeepN
namespace Go.Proofs.Ytpmdmeolehabjaa
open Go Go.RowKit

theorem short_nil {w : World} (a : Option Addr) (n c : Nat) :
    Calls Try.prog 5 #[.slice a n c, .slice none 0 0] w fun e w' => e = .returned (.bool (decide ((n : Int) ≤ 400))) ∧ w = w' := by
  go_enter Try.func5, Try.ntmps5
  go_wp2_with fail
  go_loopw [5] (fun i wr => wr = w ∧ i = .int .i64 0) (fun i _ => (1 - intOf i).toNat)
  case atStart => exact ⟨rfl, rfl⟩
  case round =>
    obtain ⟨rfl, rfl⟩ := hrel
    go_wp2
    go_ret
    exact ⟨rfl, rfl⟩

end Go.Proofs.Ytpmdmeolehabjaa
