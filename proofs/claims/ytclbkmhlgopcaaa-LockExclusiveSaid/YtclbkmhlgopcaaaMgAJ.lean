/-
  The cells of the program's environment ahead of its pointers. No function is named but Bare's.
  The cells of a deque, as a value's cells. No function and no type is named.
  The layout's cells as plain numbers. No function and no type is named.
  The reference's layout: its cells as plain numbers, and the contracts of its functions.
  The reference's layout: index, and what goes through it.
  The reference's Queue, task and Cells. (Written by wip/gen_lay2.py.)
  The reference's Cells.
  The reference's task, State, Level, Join, Waits, Since and Cells. (Written by wip/gen_lay3.py.)
  Package layout: a layout's numbers, Cells. (Written by wip/gen_lya.py.)
  Package layout: the contracts of its methods. (Written by wip/gen_lya.py.)
-/
import Derived.Test.YtclbkmhlgopcaaaPE
import Derived.Test.YtclbkmhlgopcaaaCfBase
import Derived.Test.YtclbkmhlgopcaaaBlk
import Derived.Test.YtclbkmhlgopcaaaCfMath
import Derived.BigQuiet
import Derived.Deep.CutRange
import Derived.Deep.RegionHeld3
import Derived.Lib.Hide
namespace Go.Proofs.Ytclbkmhlgopcaaa
open Go Go.RowKit Go.Shelf

/-- The cells of an environment's configuration and layout. -/
abbrev hdC (c : Cfg) (pa : Option Addr) (pn pc : Nat) (sa : Option Addr) (sn sc : Nat) (l0 l1 l2 l3 l4 l5 l6 l7 l8 : Int) : List Value := [.int .i64 c.wo, .int .i64 c.le, .int .i64 c.cl, .int .i64 c.ta, .int .i64 c.de, .int .i64 c.he, .int .i64 c.ba, .int .i64 c.ag, .int .i64 c.pa, .slice pa pn pc, .slice sa sn sc, .int .i64 l0, .int .i64 l1, .int .i64 l2, .int .i64 l3, .int .i64 l4, .int .i64 l5, .int .i64 l6, .int .i64 l7, .int .i64 l8]
end Go.Proofs.Ytclbkmhlgopcaaa

namespace Go.Proofs.Ytclbkmhlgopcaaa
open Go Go.RowKit
abbrev qcells (t b r k : Int) : Array Value := #[.int .i64 t, .int .i64 b, .int .i64 r, .int .i64 k]
end Go.Proofs.Ytclbkmhlgopcaaa

namespace Go.Proofs.Ytclbkmhlgopcaaa
open Go

/-- The numbers of a configuration are in their ranges. -/
structure CfgIn (c : Cfg) : Prop where
  wo : 1 ≤ c.wo ∧ c.wo ≤ 16
  le : 1 ≤ c.le ∧ c.le ≤ 64
  cl : 1 ≤ c.cl ∧ c.cl ≤ 8
  ta : 1 ≤ c.ta ∧ c.ta ≤ 256
  de : 1 ≤ c.de ∧ c.de ≤ 64
  he : 1 ≤ c.he ∧ c.he ≤ 64

def ixs (first i n size : Int) : Int := if i < 0 ∨ n ≤ i then -1 else first + i * size
def rSlot (c : Cfg) (i : Int) : Int := ixs 4 i c.he 1
def rSleepers (c : Cfg) (i : Int) : Int := ixs (4 + c.he) i c.cl 1
def rEpoch (c : Cfg) (i : Int) : Int := ixs (4 + c.he + c.cl) i c.wo 1
def rBitmap (c : Cfg) (i : Int) : Int := ixs (4 + c.he + c.cl + c.wo) i c.wo 1
def rDeques (c : Cfg) : Int := 4 + c.he + c.cl + 2 * c.wo
/-- The cells of all deques. -/
def rAll (c : Cfg) : Int := c.wo * c.le * (2 + c.de)
def rAt (c : Cfg) (w l : Int) : Int := rDeques c + (w * c.le + l) * (2 + c.de)
/-- There is such a deque. -/
def qIn (c : Cfg) (w l : Int) : Prop := 0 ≤ w ∧ w < c.wo ∧ 0 ≤ l ∧ l < c.le
instance (c : Cfg) (w l : Int) : Decidable (qIn c w l) := by unfold qIn; infer_instance
def rTask (c : Cfg) (t k : Int) : Int := if ixs (rDeques c + rAll c) t c.ta 5 < 0 then -1 else ixs (rDeques c + rAll c) t c.ta 5 + k
def rCells (c : Cfg) : Int := rDeques c + rAll c + 5 * c.ta

theorem mul_in {a b A B : Int} (h0 : 0 ≤ a) (h1 : a ≤ A) (h2 : 0 ≤ b) (h3 : b ≤ B) : 0 ≤ a * b ∧ a * b ≤ A * B :=
  ⟨Int.mul_nonneg h0 h2, Int.mul_le_mul h1 h3 h2 (Int.le_trans h0 h1)⟩
theorem CfgIn.wl {c : Cfg} (h : CfgIn c) : 1 ≤ c.wo * c.le ∧ c.wo * c.le ≤ 1024 := by
  have h1 := h.wo
  have h2 := h.le
  have h3 := mul_in (a := c.wo - 1) (b := c.le - 1) (by omega) (Int.le_refl _) (by omega) (Int.le_refl _)
  have h4 : (c.wo - 1) * (c.le - 1) = c.wo * c.le - c.wo - c.le + 1 := by
    rw [Int.sub_mul, Int.mul_sub]; omega
  have := (mul_in (a := c.wo) (b := c.le) (by omega) h1.2 (by omega) h2.2).2
  omega
theorem CfgIn.all {c : Cfg} (h : CfgIn c) : 0 ≤ rAll c ∧ rAll c ≤ 67584 := by
  have h1 := h.wl
  have h2 := h.de
  exact mul_in (by omega) h1.2 (by omega) (by omega : 2 + c.de ≤ 66)
theorem CfgIn.deques {c : Cfg} (h : CfgIn c) : 0 ≤ rDeques c ∧ rDeques c ≤ 200 := by
  have h1 := h.he
  have h2 := h.cl
  have h3 := h.wo
  unfold rDeques
  omega
theorem CfgIn.cells {c : Cfg} (h : CfgIn c) : 5 ≤ rCells c ∧ rCells c ≤ 70000 := by
  have h1 := h.all
  have h2 := h.he
  have h3 := h.cl
  have h4 := h.wo
  have h5 := h.ta
  unfold rCells rDeques
  omega
/-- A place of a deque is within those of all deques. -/
theorem CfgIn.at_ {c : Cfg} (h : CfgIn c) {w l : Int} (hq : qIn c w l) : 0 ≤ w * c.le ∧ w * c.le + l + 1 ≤ 1024 ∧ 0 ≤ (w * c.le + l) * (2 + c.de) ∧ (w * c.le + l) * (2 + c.de) + (2 + c.de) ≤ rAll c := by
  obtain ⟨q0, q1, q2, q3⟩ := hq
  have h1 := h.le
  have h2 := h.de
  have h3 := h.wl
  have h4 : w * c.le + c.le ≤ c.wo * c.le := by
    have := Int.mul_le_mul_of_nonneg_right (show w + 1 ≤ c.wo by omega) (show 0 ≤ c.le by omega)
    rw [Int.add_mul] at this
    omega
  have h5 : 0 ≤ w * c.le := Int.mul_nonneg q0 (by omega)
  refine ⟨h5, by omega, Int.mul_nonneg (by omega) (by omega), ?_⟩
  have h6 := Int.mul_le_mul_of_nonneg_right (show w * c.le + l + 1 ≤ c.wo * c.le by omega) (show 0 ≤ 2 + c.de by omega)
  rw [Int.add_mul] at h6
  unfold rAll
  omega

def rQueue (c : Cfg) (w l : Int) : Int × Int × Int × Int := if qIn c w l then (rAt c w l, rAt c w l + 1, rAt c w l + 2, c.de) else (-1, -1, -1, 0)
end Go.Proofs.Ytclbkmhlgopcaaa

namespace Go.Proofs.Ytclbkmhlgopcaaa
open Go Go.RowKit

/-- What a function of a configuration gives: a number, and new memory. -/
def GivesI (v : Int) (w : World) (e : Ending) (w' : World) : Prop := e = .returned (.int .i64 v) ∧ Below w.heap.size w w'

abbrev cbox (c : Cfg) (pa : Option Addr) (pn pc : Nat) (sa : Option Addr) (sn sc : Nat) : Obj := .cells (cc c pa pn pc sa sn sc) 30

section
variable {w : World} {c : Cfg} {pa sa : Option Addr} {pn pc sn sc : Nat}
end
end Go.Proofs.Ytclbkmhlgopcaaa

namespace Go.Proofs.Ytclbkmhlgopcaaa
open Go Go.RowKit

section
variable {w : World} {c : Cfg} {pa sa : Option Addr} {pn pc sn sc : Nat}
end
end Go.Proofs.Ytclbkmhlgopcaaa

namespace Go.Proofs.Ytclbkmhlgopcaaa
open Go Go.RowKit

/-- What Queue gives. -/
def GivesQ (q : Int × Int × Int × Int) (w : World) (e : Ending) (w' : World) : Prop := e = .returned (.agg (qcells q.1 q.2.1 q.2.2.1 q.2.2.2)) ∧ Below w.heap.size w w'
theorem Blk.put4 {w : World} {g : Nat} {t : TypeId} {a0 a1 a2 a3 : Value} (h : Blk w g t #[a0, a1, a2, a3]) (v0 v1 v2 v3 : Value) : Blk ((((w.setCell ⟨g, 0, none⟩ v0).setCell ⟨g, 1, none⟩ v1).setCell ⟨g, 2, none⟩ v2).setCell ⟨g, 3, none⟩ v3) g t #[v0, v1, v2, v3] := by
  have := ((((h.put 0 v0).put 1 v1).put 2 v2).put 3 v3)
  simpa only [List.setIfInBounds_toArray, List.set_cons_zero, List.set_cons_succ] using this

section
variable {w : World} {c : Cfg} {pa sa : Option Addr} {pn pc sn sc : Nat}
end
end Go.Proofs.Ytclbkmhlgopcaaa

namespace Go.Proofs.Ytclbkmhlgopcaaa
open Go Go.RowKit

section
variable {w : World} {c : Cfg} {pa sa : Option Addr} {pn pc sn sc : Nat}
end
end Go.Proofs.Ytclbkmhlgopcaaa

namespace Go.Proofs.Ytclbkmhlgopcaaa
open Go Go.RowKit

section
variable {w : World} {c : Cfg} {pa sa : Option Addr} {pn pc sn sc : Nat}
end
end Go.Proofs.Ytclbkmhlgopcaaa

namespace Go.Proofs.Ytclbkmhlgopcaaa
open Go Go.RowKit

/-- The numbers of a layout. -/
abbrev lcells (c : Cfg) : Array Value := #[.int .i64 4, .int .i64 (4 + c.he), .int .i64 (4 + c.he + c.cl), .int .i64 (4 + c.he + c.cl + c.wo), .int .i64 (rDeques c), .int .i64 (rDeques c + rAll c), .int .i64 (rCells c), .int .i64 c.le, .int .i64 c.de]
abbrev lv (c : Cfg) : Value := .agg (lcells c)
abbrev lbox (c : Cfg) : Obj := .cells (lcells c) 34

section
variable {w : World} {c : Cfg}
theorem lcells_any : Calls Try.prog 16 #[lv c] w (GivesI (rCells c) w) := by
  have B1 := Lib.hid (below_one w (lbox c))
  go_enter Try.func16, Try.ntmps16
  go_wp2
  go_ret
  exact ⟨rfl, B1.out⟩
theorem lqueuecells_any (v0 v1 v2 v3 v4 v5 v6 v7 d : Int) (h : 1 ≤ d ∧ d ≤ 64) : Calls Try.prog 23 #[.agg #[.int .i64 v0, .int .i64 v1, .int .i64 v2, .int .i64 v3, .int .i64 v4, .int .i64 v5, .int .i64 v6, .int .i64 v7, .int .i64 d]] w (GivesI (2 + d) w) := by
  have B1 := Lib.hid (below_one w (.cells #[.int .i64 v0, .int .i64 v1, .int .i64 v2, .int .i64 v3, .int .i64 v4, .int .i64 v5, .int .i64 v6, .int .i64 v7, .int .i64 d] 34))
  go_enter Try.func23, Try.ntmps23
  go_wp2
  go_ret
  exact ⟨rfl, B1.out⟩
end
end Go.Proofs.Ytclbkmhlgopcaaa

namespace Go.Proofs.Ytclbkmhlgopcaaa
open Go Go.RowKit

section
variable {w : World} {c : Cfg}
theorem llock_any : Calls Try.prog 62 #[lv c] w (GivesI 1 w) := by
  have B1 := Lib.hid (below_one w (lbox c))
  go_enter Try.func62, Try.ntmps62
  go_wp2
  go_ret
  exact ⟨rfl, B1.out⟩
end
end Go.Proofs.Ytclbkmhlgopcaaa
