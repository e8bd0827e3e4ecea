/-
  The keep's Ints.
-/
import Derived.Test.YtpmdmeolehabjaaRInts
namespace Go.Proofs.Ytpmdmeolehabjaa
open Go Go.RowKit

theorem keepints_any {w : World} {a b : Option Addr} {n m : Nat} {zs ys : List Int} (h : InInts w a n zs) (h' : InInts w b m ys) (c c' : Nat) :
    Calls Try.prog 15 #[.slice a n c, .slice b m c'] w (IntsR zs ys w) := by
  go_enter Try.func15, Try.ntmps15
  go_wp2_with fail
  (with_reducible refine (rints_any h h' c c').mono ?_)
  rintro e w' ⟨rfl, d, rfl⟩
  go_wp2
  go_ret
  exact ⟨rfl, d, rfl⟩
end Go.Proofs.Ytpmdmeolehabjaa
