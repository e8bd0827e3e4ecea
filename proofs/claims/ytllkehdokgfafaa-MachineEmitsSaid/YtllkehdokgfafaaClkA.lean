/-
  Package clock: New, Now, Copy.
-/
import Derived.Test.YtllkehdokgfafaaBlk
import Derived.WalkSpells
import Derived.WalkLawsBesides
import Derived.Lib.Hide
import Derived.Deep.RegionHeld3
import Derived.IntWalk
namespace Go.Proofs.Ytllkehdokgfafaa
open Go Go.RowKit

/-- Block p is a clock with time t and draw d. -/
def Clk (w : World) (p : Nat) (t d : Int) : Prop := Blk w p 125 #[.int .i64 t, .int .i64 d]

theorem Clk.fr {S : List Nat} {w w' : World} {p : Nat} {t d : Int} (h : Clk w p t d) (f : Fr S w w') (hp : p ∉ S) : Clk w' p t d := Blk.of_same h (f.block p (Blk.lt h) hp)
theorem Clk.below {w w' : World} {p : Nat} {t d : Int} (h : Clk w p t d) (f : Below w.heap.size w w') : Clk w' p t d := h.fr (Fr.old (S := []) f) (by simp)

theorem cnew_any (w : World) :
    Calls Try.prog 44 #[] w fun e w' => e = .returned (.pointer (some ⟨w.heap.size, 0, none⟩)) ∧ Clk w' w.heap.size 0 0 ∧ Below w.heap.size w w' := by
  go_enter Try.func44, Try.ntmps44
  go_wp2
  go_ret
  exact ⟨rfl, Blk.made w _ _, (Below.refl _ _).alloc (Nat.le_refl _) _⟩

theorem now_any {w : World} {p : Nat} {t d : Int} (h : Clk w p t d) :
    Calls Try.prog 36 #[.pointer (some ⟨p, 0, none⟩)] w fun e w' => e = .returned (.int .i64 t) ∧ w = w' := by
  have h0 : w.cell? ⟨p, 0, none⟩ = some (.int .i64 t) := Blk.at_ h 0
  go_enter Try.func36, Try.ntmps36
  go_wp2
  go_ret
  exact ⟨rfl, rfl⟩

/-- What Copy gives: a clock of its own, with the same time and draw. -/
theorem ccopy_any {w : World} {p : Nat} {t d : Int} (h : Clk w p t d) :
    Calls Try.prog 52 #[.pointer (some ⟨p, 0, none⟩)] w fun e w' => e = .returned (.pointer (some ⟨w.heap.size, 0, none⟩)) ∧ Clk w' w.heap.size t d ∧ Below w.heap.size w w' := by
  have h0 : w.cell? ⟨p, 0, none⟩ = some (.int .i64 t) := Blk.at_ h 0
  have h1 : w.cell? ⟨p, 1, none⟩ = some (.int .i64 d) := Blk.at_ h 1
  have hl := Blk.lt h
  go_enter Try.func52, Try.ntmps52
  go_wp2
  go_ret
  exact ⟨rfl, Blk.made w _ _, (Below.refl _ _).alloc (Nat.le_refl _) _⟩
end Go.Proofs.Ytllkehdokgfafaa
