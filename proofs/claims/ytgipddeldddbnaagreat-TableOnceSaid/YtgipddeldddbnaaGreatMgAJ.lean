/-
  The cells of the program's environment ahead of its pointers. No function is named but Bare's.
  The cells of a deque, as a value's cells. No function and no type is named.
  The reference's layout: its cells as plain numbers, and the contracts of its functions.
  The reference's layout: index, and what goes through it.
  The reference's Queue, task and Cells. (Written by wip/gen_lay2.py.)
  The reference's Cells.
  The reference's task, State, Level, Join, Waits, Since and Cells. (Written by wip/gen_lay3.py.)
  Package layout: a layout's numbers, Cells. (Written by wip/gen_lya.py.)
  Package layout: the contracts of its methods. (Written by wip/gen_lya.py.)
-/
import Derived.Test.YtgipddeldddbnaaGreatMgAI
import Derived.Test.YtgipddeldddbnaaGreatCfBase
import Derived.Test.YtgipddeldddbnaaGreatMgAA
import Derived.Test.YtgipddeldddbnaaGreatMgAD
import Derived.BigQuiet
import Derived.Deep.CutRange
import Derived.Deep.RegionHeld3
import Derived.Lib.Hide
namespace Go.Proofs.YtgipddeldddbnaaGreat
open Go Go.RowKit Go.Shelf

/-- The cells of an environment's configuration and layout. -/
abbrev hdC (c : Cfg) (pa : Option Addr) (pn pc : Nat) (sa : Option Addr) (sn sc : Nat) (l0 l1 l2 l3 l4 l5 l6 l7 l8 : Int) : List Value := [.int .i64 c.wo, .int .i64 c.le, .int .i64 c.cl, .int .i64 c.ta, .int .i64 c.de, .int .i64 c.he, .int .i64 c.ba, .int .i64 c.ag, .int .i64 c.pa, .slice pa pn pc, .slice sa sn sc, .int .i64 l0, .int .i64 l1, .int .i64 l2, .int .i64 l3, .int .i64 l4, .int .i64 l5, .int .i64 l6, .int .i64 l7, .int .i64 l8]
end Go.Proofs.YtgipddeldddbnaaGreat

namespace Go.Proofs.YtgipddeldddbnaaGreat
open Go Go.RowKit
abbrev qcells (t b r k : Int) : Array Value := #[.int .i64 t, .int .i64 b, .int .i64 r, .int .i64 k]
end Go.Proofs.YtgipddeldddbnaaGreat

namespace Go.Proofs.YtgipddeldddbnaaGreat
open Go Go.RowKit

/-- What a function of a configuration gives: a number, and new memory. -/
def GivesI (v : Int) (w : World) (e : Ending) (w' : World) : Prop := e = .returned (.int .i64 v) ∧ Below w.heap.size w w'

abbrev cbox (c : Cfg) (pa : Option Addr) (pn pc : Nat) (sa : Option Addr) (sn sc : Nat) : Obj := .cells (cc c pa pn pc sa sn sc) 30

section
variable {w : World} {c : Cfg} {pa sa : Option Addr} {pn pc sn sc : Nat}
end
end Go.Proofs.YtgipddeldddbnaaGreat

namespace Go.Proofs.YtgipddeldddbnaaGreat
open Go Go.RowKit

section
variable {w : World} {c : Cfg} {pa sa : Option Addr} {pn pc sn sc : Nat}
end
end Go.Proofs.YtgipddeldddbnaaGreat

namespace Go.Proofs.YtgipddeldddbnaaGreat
open Go Go.RowKit

/-- What Queue gives. -/
def GivesQ (q : Int × Int × Int × Int) (w : World) (e : Ending) (w' : World) : Prop := e = .returned (.agg (qcells q.1 q.2.1 q.2.2.1 q.2.2.2)) ∧ Below w.heap.size w w'
theorem Blk.put4 {w : World} {g : Nat} {t : TypeId} {a0 a1 a2 a3 : Value} (h : Blk w g t #[a0, a1, a2, a3]) (v0 v1 v2 v3 : Value) : Blk ((((w.setCell ⟨g, 0, none⟩ v0).setCell ⟨g, 1, none⟩ v1).setCell ⟨g, 2, none⟩ v2).setCell ⟨g, 3, none⟩ v3) g t #[v0, v1, v2, v3] := by
  have := ((((h.put 0 v0).put 1 v1).put 2 v2).put 3 v3)
  simpa only [List.setIfInBounds_toArray, List.set_cons_zero, List.set_cons_succ] using this

section
variable {w : World} {c : Cfg} {pa sa : Option Addr} {pn pc sn sc : Nat}
end
end Go.Proofs.YtgipddeldddbnaaGreat

namespace Go.Proofs.YtgipddeldddbnaaGreat
open Go Go.RowKit

section
variable {w : World} {c : Cfg} {pa sa : Option Addr} {pn pc sn sc : Nat}
end
end Go.Proofs.YtgipddeldddbnaaGreat

namespace Go.Proofs.YtgipddeldddbnaaGreat
open Go Go.RowKit

section
variable {w : World} {c : Cfg} {pa sa : Option Addr} {pn pc sn sc : Nat}
end
end Go.Proofs.YtgipddeldddbnaaGreat

namespace Go.Proofs.YtgipddeldddbnaaGreat
open Go Go.RowKit

/-- The numbers of a layout. -/
abbrev lcells (c : Cfg) : Array Value := #[.int .i64 4, .int .i64 (4 + c.he), .int .i64 (4 + c.he + c.cl), .int .i64 (4 + c.he + c.cl + c.wo), .int .i64 (rDeques c), .int .i64 (rDeques c + rAll c), .int .i64 (rCells c), .int .i64 c.le, .int .i64 c.de]
abbrev lv (c : Cfg) : Value := .agg (lcells c)
abbrev lbox (c : Cfg) : Obj := .cells (lcells c) 34

section
variable {w : World} {c : Cfg}
theorem lcells_any : Calls Tryz.prog 13 #[lv c] w (GivesI (rCells c) w) := by
  have B1 := Lib.hid (below_one w (lbox c))
  go_enter Tryz.func13, Tryz.ntmps13
  go_wp2
  go_ret
  exact ⟨rfl, B1.out⟩
theorem lqueuecells_any (v0 v1 v2 v3 v4 v5 v6 v7 d : Int) (h : 1 ≤ d ∧ d ≤ 64) : Calls Tryz.prog 22 #[.agg #[.int .i64 v0, .int .i64 v1, .int .i64 v2, .int .i64 v3, .int .i64 v4, .int .i64 v5, .int .i64 v6, .int .i64 v7, .int .i64 d]] w (GivesI (2 + d) w) := by
  have B1 := Lib.hid (below_one w (.cells #[.int .i64 v0, .int .i64 v1, .int .i64 v2, .int .i64 v3, .int .i64 v4, .int .i64 v5, .int .i64 v6, .int .i64 v7, .int .i64 d] 34))
  go_enter Tryz.func22, Tryz.ntmps22
  go_wp2
  go_ret
  exact ⟨rfl, B1.out⟩
end
end Go.Proofs.YtgipddeldddbnaaGreat

namespace Go.Proofs.YtgipddeldddbnaaGreat
open Go Go.RowKit

theorem below_any (i n : Int) (w : World) : Calls Tryz.prog 81 #[.int .i64 i, .int .i64 n] w fun e w' => e = .returned (.bool (decide (0 ≤ i ∧ i < n))) ∧ w = w' := by
  by_cases h0 : 0 ≤ i
  · by_cases h1 : i < n
    · rw [show decide (0 ≤ i ∧ i < n) = true from decide_eq_true ⟨h0, h1⟩]
      go_enter Tryz.func81, Tryz.ntmps81
      go_wp2
      go_ret
      exact ⟨rfl, rfl⟩
    · rw [show decide (0 ≤ i ∧ i < n) = false from decide_eq_false (fun h => h1 h.2)]
      go_enter Tryz.func81, Tryz.ntmps81
      go_wp2
      go_ret
      exact ⟨rfl, rfl⟩
  · rw [show decide (0 ≤ i ∧ i < n) = false from decide_eq_false (fun h => h0 h.1)]
    go_enter Tryz.func81, Tryz.ntmps81
    go_wp2
    go_ret
    exact ⟨rfl, rfl⟩

theorem single_any (first end_ i : Int) (h0 : 0 ≤ first) (h1 : first ≤ end_) (h2 : end_ ≤ 100000) (w : World) :
    Calls Tryz.prog 109 #[.int .i64 first, .int .i64 end_, .int .i64 i] w fun e w' => e = .returned (.int .i64 (ixs first i (end_ - first) 1)) ∧ w = w' := by
  unfold ixs
  by_cases hi : 0 ≤ i ∧ i < end_ - first
  · rw [if_neg (by omega), Int.mul_one]
    obtain ⟨i0, i1⟩ := hi
    go_enter Tryz.func109, Tryz.ntmps109
    go_wp2_with fail
    (with_reducible refine (below_any _ _ _).mono ?_)
    rintro e w1 ⟨rfl, rfl⟩
    rw [show decide (0 ≤ i ∧ i < end_ - first) = true from decide_eq_true ⟨i0, i1⟩]
    go_wp2
    go_ret
    exact ⟨rfl, rfl⟩
  · rw [if_pos (by omega)]
    have hd : decide (0 ≤ i ∧ i < end_ - first) = false := decide_eq_false hi
    clear hi
    go_enter Tryz.func109, Tryz.ntmps109
    go_wp2_with fail
    (with_reducible refine (below_any _ _ _).mono ?_)
    rintro e w1 ⟨rfl, rfl⟩
    rw [hd]
    go_wp2
    go_ret
    exact ⟨rfl, rfl⟩

section
variable {w : World} {c : Cfg}
theorem lynext_any : Calls Tryz.prog 92 #[lv c] w (GivesI 0 w) := by
  have B1 := Lib.hid (below_one w (lbox c))
  go_enter Tryz.func92, Tryz.ntmps92
  go_wp2
  go_ret
  exact ⟨rfl, B1.out⟩
theorem lbitmap_any (h : CfgIn c) (i : Int) : Calls Tryz.prog 108 #[lv c, .int .i64 i] w (GivesI (rBitmap c i) w) := by
  have B1 := Lib.hid (below_one w (lbox c))
  have h1 := h.he
  have h2 := h.cl
  have h3 := h.wo
  have hd : rDeques c = 4 + c.he + c.cl + 2 * c.wo := rfl
  have hn : 4 + c.he + c.cl + 2 * c.wo - (4 + c.he + c.cl + c.wo) = c.wo := by omega
  have HN := Lib.hid hn
  clear hn
  go_enter Tryz.func108, Tryz.ntmps108
  go_wp2_with fail
  (with_reducible refine (single_any _ _ _ ?a1 ?a2 ?a3 _).mono ?_)
  case a1 => omega
  case a2 => omega
  case a3 => omega
  rintro e w1 ⟨rfl, rfl⟩
  rw [HN.out]
  clear hd
  go_wp2
  go_ret
  exact ⟨rfl, B1.out⟩
set_option maxHeartbeats 1000000 in
theorem ltask_any (h : CfgIn c) (t k : Int) (hk : 0 ≤ k ∧ k ≤ 4) : Calls Tryz.prog 78 #[lv c, .int .i64 t, .int .i64 k] w (GivesI (rTask c t k) w) := by
  have B1 := Lib.hid (below_one w (lbox c))
  have hta := h.ta
  have hd := h.deques
  have ha := h.all
  have hc : rCells c = rDeques c + rAll c + 5 * c.ta := rfl
  have hdv : (5 * c.ta).tdiv 5 = c.ta := by rw [Int.mul_comm, Int.mul_tdiv_cancel _ (by omega)]
  have hr : rTask c t k = if 0 ≤ t ∧ t < c.ta then rDeques c + rAll c + t * 5 + k else -1 := by
    unfold rTask ixs
    by_cases ht : 0 ≤ t ∧ t < c.ta
    · rw [if_neg (show ¬ (t < 0 ∨ c.ta ≤ t) by omega), if_neg (by omega), if_pos ht]
    · rw [if_pos (show t < 0 ∨ c.ta ≤ t by omega), if_pos (by omega), if_neg ht]
  rw [hr]
  clear hr
  obtain ⟨C, hC⟩ : ∃ x, rCells c = x := ⟨_, rfl⟩
  obtain ⟨D, hD⟩ : ∃ x, rDeques c + rAll c = x := ⟨_, rfl⟩
  have hD0 : 0 ≤ D ∧ D ≤ 68000 := by omega
  have hCD : C - D = 5 * c.ta := by omega
  have hCb : 0 ≤ C ∧ C ≤ 70000 := by omega
  have hlb : lbox c = .cells #[.int .i64 4, .int .i64 (4 + c.he), .int .i64 (4 + c.he + c.cl), .int .i64 (4 + c.he + c.cl + c.wo), .int .i64 (rDeques c), .int .i64 D, .int .i64 C, .int .i64 c.le, .int .i64 c.de] 34 := by rw [← hC, ← hD]
  rw [hlb] at B1
  have hlv : lv c = .agg #[.int .i64 4, .int .i64 (4 + c.he), .int .i64 (4 + c.he + c.cl), .int .i64 (4 + c.he + c.cl + c.wo), .int .i64 (rDeques c), .int .i64 D, .int .i64 C, .int .i64 c.le, .int .i64 c.de] := by rw [← hC, ← hD]
  rw [hlv, hD]
  generalize rDeques c = E at *
  clear hC hD hc hlb hlv hd ha
  by_cases ht : 0 ≤ t ∧ t < c.ta
  · rw [if_pos ht]
    have hdt : decide (0 ≤ t ∧ t < c.ta) = true := decide_eq_true ht
    have HT := Lib.hid hdt
    obtain ⟨t0, t1⟩ := ht
    clear hdt
    go_enter Tryz.func78, Tryz.ntmps78
    go_wp2_with fail
    (with_reducible refine (below_any _ _ _).mono ?_)
    rintro e w1 ⟨rfl, rfl⟩
    rw [HT.out]
    go_wp2
    go_ret
    exact ⟨rfl, B1.out⟩
  · rw [if_neg ht]
    have hdt : decide (0 ≤ t ∧ t < c.ta) = false := decide_eq_false ht
    have HT := Lib.hid hdt
    clear ht hdt
    go_enter Tryz.func78, Tryz.ntmps78
    go_wp2_with fail
    (with_reducible refine (below_any _ _ _).mono ?_)
    rintro e w1 ⟨rfl, rfl⟩
    rw [HT.out]
    go_wp2
    go_ret
    exact ⟨rfl, B1.out⟩
theorem lstate_any (h : CfgIn c) (t : Int) : Calls Tryz.prog 75 #[lv c, .int .i64 t] w (GivesI (rTask c t 0) w) := by
  have B1 := Lib.hid (below_one w (lbox c))
  go_enter Tryz.func75, Tryz.ntmps75
  go_wp2_with fail
  (with_reducible refine (ltask_any h _ _ ?a1).mono ?_)
  case a1 => exact ⟨by decide, by decide⟩
  rintro e w1 ⟨rfl, b1⟩
  have B2 := Lib.hid (B1.out.trans (b1.mono B1.out.size))
  clear b1
  go_wp2
  go_ret
  exact ⟨rfl, B2.out⟩
theorem llevel_any (h : CfgIn c) (t : Int) : Calls Tryz.prog 67 #[lv c, .int .i64 t] w (GivesI (rTask c t 1) w) := by
  have B1 := Lib.hid (below_one w (lbox c))
  go_enter Tryz.func67, Tryz.ntmps67
  go_wp2_with fail
  (with_reducible refine (ltask_any h _ _ ?a1).mono ?_)
  case a1 => exact ⟨by decide, by decide⟩
  rintro e w1 ⟨rfl, b1⟩
  have B2 := Lib.hid (B1.out.trans (b1.mono B1.out.size))
  clear b1
  go_wp2
  go_ret
  exact ⟨rfl, B2.out⟩
theorem lsince_any (h : CfgIn c) (t : Int) : Calls Tryz.prog 73 #[lv c, .int .i64 t] w (GivesI (rTask c t 4) w) := by
  have B1 := Lib.hid (below_one w (lbox c))
  go_enter Tryz.func73, Tryz.ntmps73
  go_wp2_with fail
  (with_reducible refine (ltask_any h _ _ ?a1).mono ?_)
  case a1 => exact ⟨by decide, by decide⟩
  rintro e w1 ⟨rfl, b1⟩
  have B2 := Lib.hid (B1.out.trans (b1.mono B1.out.size))
  clear b1
  go_wp2
  go_ret
  exact ⟨rfl, B2.out⟩
end
end Go.Proofs.YtgipddeldddbnaaGreat
