/-
  Contract of memory.New.
  Package clock: New, Now, Copy.
-/
import Derived.Test.YtclbkmhlgopcaaaMemAcc
import Derived.Test.YtclbkmhlgopcaaaMgAC
import Derived.Maps.AppendAt
import Derived.OwnWalk
import Derived.Deep.RegionHeld3
import Derived.Deep.OwnRows
import Derived.Test.YtclbkmhlgopcaaaBlk
import Derived.WalkSpells
import Derived.WalkLawsBesides
import Derived.Lib.Hide
import Derived.IntWalk
namespace Go.Proofs.Ytclbkmhlgopcaaa
open Go Go.RowKit Go.Shelf

theorem Row.alloc {w : World} {g n cap : Nat} {X : List Int} (h : Row w g n cap X) (o : Obj) : Row (w.alloc o) g n cap X := h.of_same (Below.heap_alloc w o g h.lt)

theorem new_mem (w : World) (n : Nat) (hn : n ≤ 131072) :
    Mem ((w.alloc (.cells (madeCells #[.int .u64 0] n) 51)).alloc (.cells #[.slice (some ⟨w.heap.size, 0, none⟩) n n, .int .i64 0, .int .i64 0, .int .i64 0, .int .u64 0, .int .u64 0] 84)) (w.heap.size + 1) w.heap.size n (St.new n) := by
  refine ⟨?_, ?_, by simpa [St.new] using hn⟩
  · have := Blk.made (w.alloc (.cells (madeCells #[.int .u64 0] n) 51)) 84 #[.slice (some ⟨w.heap.size, 0, none⟩) n n, .int .i64 0, .int .i64 0, .int .i64 0, .int .u64 0, .int .u64 0]
    simpa [St.new] using this
  · have := (made_row w n hn).alloc (.cells #[.slice (some ⟨w.heap.size, 0, none⟩) n n, .int .i64 0, .int .i64 0, .int .i64 0, .int .u64 0, .int .u64 0] 84)
    simpa [St.new] using this


theorem mnew_any (c : Int) (w : World) :
    Calls Try.prog 24 #[.int .i64 c] w fun e w' => e = .returned (.pointer (some ⟨w.heap.size + 1, 0, none⟩)) ∧ Mem w' (w.heap.size + 1) w.heap.size (sizeS c) (St.new (sizeS c)) ∧ Below w.heap.size w w' := by
  have hmk := fun (n : Nat) (hn : n ≤ 131072) (W : World) => run_make_row' (P := Try.prog) 80 51 (.int .u64 0) 8 Try.underlying80 info_u64 rfl .i64 .i64 n (by omega) (by omega) W
  have hb : ∀ o o' : Obj, Below w.heap.size w ((w.alloc o).alloc o') := fun o o' => ((Below.refl _ _).alloc (Nat.le_refl _) _).alloc (by simp) _
  have HM := Lib.hid (new_mem w)
  have HB := Lib.hid hb
  clear hb
  by_cases h1 : c < 0
  · have e : sizeS c = 0 := by unfold sizeS; rw [if_pos (by omega)]
    rw [e]
    clear e
    have hk := hmk 0 (by omega)
    rw [show ((0 : Nat) : Int) = 0 from rfl] at hk
    clear hmk
    go_enter Try.func24, Try.ntmps24
    go_wp2
    go_ret
    exact ⟨rfl, HM.out 0 (by omega), HB.out _ _⟩
  · by_cases h2 : c ≤ 131072
    · obtain ⟨n, rfl⟩ : ∃ n : Nat, c = (n : Int) := ⟨c.toNat, by omega⟩
      have e : sizeS n = n := by unfold sizeS; split <;> omega
      rw [e]
      clear e
      have hk := hmk n (by omega)
      clear hmk
      go_enter Try.func24, Try.ntmps24
      go_wp2
      go_ret
      exact ⟨rfl, HM.out n (by omega), HB.out _ _⟩
    · have e : sizeS c = 131072 := by unfold sizeS; split <;> omega
      rw [e]
      clear e
      have hk := hmk 131072 (by omega)
      rw [show ((131072 : Nat) : Int) = 131072 from rfl] at hk
      clear hmk
      go_enter Try.func24, Try.ntmps24
      go_wp2
      go_ret
      exact ⟨rfl, HM.out 131072 (by omega), HB.out _ _⟩

end Go.Proofs.Ytclbkmhlgopcaaa

namespace Go.Proofs.Ytclbkmhlgopcaaa
open Go Go.RowKit

/-- Block p is a clock with time t and draw d. -/
def Clk (w : World) (p : Nat) (t d : Int) : Prop := Blk w p 105 #[.int .i64 t, .int .i64 d]

theorem Clk.fr {S : List Nat} {w w' : World} {p : Nat} {t d : Int} (h : Clk w p t d) (f : Fr S w w') (hp : p ∉ S) : Clk w' p t d := Blk.of_same h (f.block p (Blk.lt h) hp)
theorem Clk.below {w w' : World} {p : Nat} {t d : Int} (h : Clk w p t d) (f : Below w.heap.size w w') : Clk w' p t d := h.fr (Fr.old (S := []) f) (by simp)

theorem cnew_any (w : World) :
    Calls Try.prog 25 #[] w fun e w' => e = .returned (.pointer (some ⟨w.heap.size, 0, none⟩)) ∧ Clk w' w.heap.size 0 0 ∧ Below w.heap.size w w' := by
  go_enter Try.func25, Try.ntmps25
  go_wp2
  go_ret
  exact ⟨rfl, Blk.made w _ _, (Below.refl _ _).alloc (Nat.le_refl _) _⟩

end Go.Proofs.Ytclbkmhlgopcaaa
