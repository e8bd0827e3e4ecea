/-
  Package levels: Push and Pop, and the methods of their machines. (Written by wip/gen_lvl.py.)
  Package table: Allocate, Publish, Claim and Enter, and the methods of their machines. (Written by wip/gen_tbn.py.)
-/
import Derived.Test.YtgipddeldddbnaaGreatMgBD
import Derived.Test.YtgipddeldddbnaaGreatTbD
import Derived.Test.YtgipddeldddbnaaGreatMgAV
namespace Go.Proofs.YtgipddeldddbnaaGreat
open Go Go.RowKit Go.Shelf
set_option linter.unusedSimpArgs false

abbrev ocellz : Array Value := #[.int .i64 1, .int .i64 0, .int .i64 0, .nilIface]
abbrev ocell0 : Array Value := #[.int .i64 0, .int .i64 0, .int .i64 0, .nilIface]
set_option maxHeartbeats 2000000 in
theorem around_any (w : World) : Calls Tryz.prog 19 #[] w fun e w' => e = .returned (.agg ocellz) ∧ Below w.heap.size w w' := by
  have HX := Lib.hid (Blk.made w 67 ocell0)
  have HB := Lib.hid (below_one w (.cells ocell0 67))
  go_enter Tryz.func19, Tryz.ntmps19
  go_wp2_with fail
  (with_reducible refine (lbegin_any _).mono ?_)
  rintro e w1 ⟨rfl, hb⟩
  have X1 := Lib.hid (HX.out.below hb)
  have B1 := Lib.hid (HB.out.trans (hb.mono HB.out.size))
  have x0 := X1.out.at_ 0
  have x1 := X1.out.at_ 1
  have x2 := X1.out.at_ 2
  have x3 := X1.out.at_ 3
  have f0 := X1.out.free 0
  have f1 := X1.out.free 1
  have f2 := X1.out.free 2
  have f3 := X1.out.free 3
  clear hb HX HB
  go_wp2
  have X4 := Lib.hid (X1.out.put4 (.int .i64 1) (.int .i64 0) (.int .i64 0) .nilIface)
  refine bodyPost_ret (results_cell_row (P := Tryz.prog) Tryz.results19 _ _ w.heap.size 67 _ (0, 0) _ rfl X4.out Tryz.underlying67 rfl (by kernel_rfl)) rfl ?_
  refine ⟨rfl, ?_⟩
  exact (((B1.out.setCell (Nat.le_refl _) _).setCell (Nat.le_refl _) _).setCell (Nat.le_refl _) _).setCell (Nat.le_refl _) _

/-- What Push and Pop give: a machine at its first line. -/
def VNew (V : World → Nat → Fra × Option Fra → Option Nat → Prop) (ty : TypeId) (f : Fra) (w : World) (e : Ending) (w' : World) : Prop :=
  ∃ b : Nat, e = .returned (.iface ty (.pointer (some ⟨b, 0, none⟩))) ∧ V w' b (f, none) none ∧ w.heap.size ≤ b ∧ Below w.heap.size w w'
abbrev fraLP (a l v : Int) : Fra := ⟨5, 1, 0, 0, 0, 0, a, l, v, 0, 0, 0, 0, 0, 0, 0, 0, .slice none 0 0⟩
abbrev fraLQ (a : Int) : Fra := ⟨6, 1, 0, 0, 0, 0, a, 0, 0, 0, 0, 0, 0, 0, 0, 0, 0, .slice none 0 0⟩
set_option maxHeartbeats 2000000 in
theorem lvPush_any (a l v : Int) (w : World) : Calls Tryz.prog 70 #[.int .i64 a, .int .i64 l, .int .i64 v] w (VNew V5 147 (fraLP a l v) w) := by
  go_enter Tryz.func70, Tryz.ntmps70
  go_wp2_with fail
  (with_reducible refine (around_any _).mono ?_)
  rintro e w1 ⟨rfl, hb⟩
  have HB := Lib.hid hb
  clear hb
  go_wp2
  go_ret
  exact ⟨w1.heap.size, rfl, ⟨.nilIface, ⟨rfl, rfl⟩, ⟨Blk.made w1 _ _, by decide, by decide, by decide, by decide⟩, rfl, .inl ⟨rfl, fun y hy => by cases hy⟩⟩, HB.out.size, HB.out.trans ((below_one w1 _).mono HB.out.size)⟩
/-- Its methods. -/
theorem meth_step_lvpusher (q : Nat) (w : World) : (method 281 147 (.pointer (some ⟨q, 0, none⟩)) "Step").run Tryz.prog w = .ok (98, .pointer (some ⟨q, 0, none⟩)) w := by kernel_rfl
theorem ahead_step_lvpusher (q : Nat) (w : World) : (nilAhead 281 147 (.pointer (some ⟨q, 0, none⟩)) "Step").run Tryz.prog w = .ok (some false) w := by kernel_rfl
theorem meth_result_lvpusher (q : Nat) (w : World) : (method 281 147 (.pointer (some ⟨q, 0, none⟩)) "Result").run Tryz.prog w = .ok (58, .pointer (some ⟨q, 0, none⟩)) w := by kernel_rfl
theorem ahead_result_lvpusher (q : Nat) (w : World) : (nilAhead 281 147 (.pointer (some ⟨q, 0, none⟩)) "Result").run Tryz.prog w = .ok (some false) w := by kernel_rfl
end Go.Proofs.YtgipddeldddbnaaGreat

namespace Go.Proofs.YtgipddeldddbnaaGreat
open Go Go.RowKit Go.Shelf
set_option linter.unusedSimpArgs false
set_option linter.unusedVariables false

abbrev fraA : Fra := fra1 12 0 0 0 0 0
abbrev fraPb (t l : Int) : Fra := ⟨13, 1, 0, 0, 0, 0, t, l, 0, 0, 0, 0, 0, 0, 0, 0, 0, .slice none 0 0⟩
abbrev fraCl (a t : Int) : Fra := ⟨14, 1, 0, 0, 0, 0, a, t, 0, 0, 0, 0, 0, 0, 0, 0, 0, .slice none 0 0⟩
abbrev fraEn (a t : Int) : Fra := ⟨15, 1, 0, 0, 0, 0, a, t, 0, 0, 0, 0, 0, 0, 0, 0, 0, .slice none 0 0⟩
/-- What Allocate gives. -/
def allocator_made (w : World) (e : Ending) (w' : World) : Prop :=
  ∃ q : Nat, e = .returned (.iface 95 (.pointer (some ⟨q, 0, none⟩))) ∧ LB w' q 97 [] fraA 0 0 ∧ w.heap.size ≤ q ∧ Below w.heap.size w w'
set_option maxHeartbeats 2000000 in
theorem allocator_new (w : World) : Calls Tryz.prog 17 #[] w (allocator_made  w) := by
  go_enter Tryz.func17, Tryz.ntmps17
  go_wp2_with fail
  (with_reducible refine (lbegin_any _).mono ?_)
  rintro e w1 ⟨rfl, hb⟩
  have HB := Lib.hid hb
  clear hb
  go_wp2
  go_ret
  have hs := HB.out.size
  refine ⟨w1.heap.size, rfl, ⟨Blk.made w1 _ _, by decide, by decide, by decide, by decide⟩, hs, HB.out.trans ((below_one w1 _).mono hs)⟩
theorem meth_step_allocator (q : Nat) (w : World) : (method 281 95 (.pointer (some ⟨q, 0, none⟩)) "Step").run Tryz.prog w = .ok (90, .pointer (some ⟨q, 0, none⟩)) w := by kernel_rfl
theorem ahead_step_allocator (q : Nat) (w : World) : (nilAhead 281 95 (.pointer (some ⟨q, 0, none⟩)) "Step").run Tryz.prog w = .ok (some false) w := by kernel_rfl
theorem meth_result_allocator (q : Nat) (w : World) : (method 281 95 (.pointer (some ⟨q, 0, none⟩)) "Result").run Tryz.prog w = .ok (58, .pointer (some ⟨q, 0, none⟩)) w := by kernel_rfl
theorem ahead_result_allocator (q : Nat) (w : World) : (nilAhead 281 95 (.pointer (some ⟨q, 0, none⟩)) "Result").run Tryz.prog w = .ok (some false) w := by kernel_rfl
/-- What Publish gives. -/
def publisher_made (a b : Int) (w : World) (e : Ending) (w' : World) : Prop :=
  ∃ q : Nat, e = .returned (.iface 98 (.pointer (some ⟨q, 0, none⟩))) ∧ LB w' q 100 [.int .i64 a, .int .i64 b] (fraPb a b) 0 0 ∧ w.heap.size ≤ q ∧ Below w.heap.size w w'
set_option maxHeartbeats 2000000 in
theorem publisher_new (a b : Int) (w : World) : Calls Tryz.prog 18 #[.int .i64 a, .int .i64 b] w (publisher_made a b w) := by
  go_enter Tryz.func18, Tryz.ntmps18
  go_wp2_with fail
  (with_reducible refine (lbegin_any _).mono ?_)
  rintro e w1 ⟨rfl, hb⟩
  have HB := Lib.hid hb
  clear hb
  go_wp2
  go_ret
  have hs := HB.out.size
  refine ⟨w1.heap.size, rfl, ⟨Blk.made w1 _ _, by decide, by decide, by decide, by decide⟩, hs, HB.out.trans ((below_one w1 _).mono hs)⟩
theorem meth_step_publisher (q : Nat) (w : World) : (method 281 98 (.pointer (some ⟨q, 0, none⟩)) "Step").run Tryz.prog w = .ok (95, .pointer (some ⟨q, 0, none⟩)) w := by kernel_rfl
theorem ahead_step_publisher (q : Nat) (w : World) : (nilAhead 281 98 (.pointer (some ⟨q, 0, none⟩)) "Step").run Tryz.prog w = .ok (some false) w := by kernel_rfl
theorem meth_result_publisher (q : Nat) (w : World) : (method 281 98 (.pointer (some ⟨q, 0, none⟩)) "Result").run Tryz.prog w = .ok (58, .pointer (some ⟨q, 0, none⟩)) w := by kernel_rfl
theorem ahead_result_publisher (q : Nat) (w : World) : (nilAhead 281 98 (.pointer (some ⟨q, 0, none⟩)) "Result").run Tryz.prog w = .ok (some false) w := by kernel_rfl
/-- What Claim gives. -/
def claimer_made (a b : Int) (w : World) (e : Ending) (w' : World) : Prop :=
  ∃ q : Nat, e = .returned (.iface 73 (.pointer (some ⟨q, 0, none⟩))) ∧ LB w' q 76 (cpost (fraCl a b)) (fraCl a b) 0 0 ∧ w.heap.size ≤ q ∧ Below w.heap.size w w'
set_option maxHeartbeats 2000000 in
theorem claimer_new (a b : Int) (w : World) : Calls Tryz.prog 10 #[.int .i64 a, .int .i64 b] w (claimer_made a b w) := by
  go_enter Tryz.func10, Tryz.ntmps10
  go_wp2_with fail
  (with_reducible refine (lbegin_any _).mono ?_)
  rintro e w1 ⟨rfl, hb⟩
  have HB := Lib.hid hb
  clear hb
  go_wp2
  go_ret
  have hs := HB.out.size
  refine ⟨w1.heap.size, rfl, ⟨Blk.made w1 _ _, by decide, by decide, by decide, by decide⟩, hs, HB.out.trans ((below_one w1 _).mono hs)⟩
theorem meth_step_claimer (q : Nat) (w : World) : (method 281 73 (.pointer (some ⟨q, 0, none⟩)) "Step").run Tryz.prog w = .ok (83, .pointer (some ⟨q, 0, none⟩)) w := by kernel_rfl
theorem ahead_step_claimer (q : Nat) (w : World) : (nilAhead 281 73 (.pointer (some ⟨q, 0, none⟩)) "Step").run Tryz.prog w = .ok (some false) w := by kernel_rfl
theorem meth_result_claimer (q : Nat) (w : World) : (method 281 73 (.pointer (some ⟨q, 0, none⟩)) "Result").run Tryz.prog w = .ok (58, .pointer (some ⟨q, 0, none⟩)) w := by kernel_rfl
theorem ahead_result_claimer (q : Nat) (w : World) : (nilAhead 281 73 (.pointer (some ⟨q, 0, none⟩)) "Result").run Tryz.prog w = .ok (some false) w := by kernel_rfl
/-- What Enter gives. -/
def entrant_made (a b : Int) (w : World) (e : Ending) (w' : World) : Prop :=
  ∃ q : Nat, e = .returned (.iface 63 (.pointer (some ⟨q, 0, none⟩))) ∧ LB w' q 72 [.nilIface, .int .i64 b, .int .i64 a, .int .i64 0] (fraEn a b) 0 0 ∧ w.heap.size ≤ q ∧ Below w.heap.size w w'
set_option maxHeartbeats 2000000 in
theorem entrant_new (a b : Int) (w : World) : Calls Tryz.prog 9 #[.int .i64 a, .int .i64 b] w (entrant_made a b w) := by
  go_enter Tryz.func9, Tryz.ntmps9
  go_wp2_with fail
  (with_reducible refine (around_any _).mono ?_)
  rintro e w1 ⟨rfl, hb⟩
  have HB := Lib.hid hb
  clear hb
  go_wp2
  go_ret
  have hs := HB.out.size
  refine ⟨w1.heap.size, rfl, ⟨Blk.made w1 _ _, by decide, by decide, by decide, by decide⟩, hs, HB.out.trans ((below_one w1 _).mono hs)⟩
theorem meth_step_entrant (q : Nat) (w : World) : (method 281 63 (.pointer (some ⟨q, 0, none⟩)) "Step").run Tryz.prog w = .ok (59, .pointer (some ⟨q, 0, none⟩)) w := by kernel_rfl
theorem ahead_step_entrant (q : Nat) (w : World) : (nilAhead 281 63 (.pointer (some ⟨q, 0, none⟩)) "Step").run Tryz.prog w = .ok (some false) w := by kernel_rfl
theorem meth_result_entrant (q : Nat) (w : World) : (method 281 63 (.pointer (some ⟨q, 0, none⟩)) "Result").run Tryz.prog w = .ok (58, .pointer (some ⟨q, 0, none⟩)) w := by kernel_rfl
theorem ahead_result_entrant (q : Nat) (w : World) : (nilAhead 281 63 (.pointer (some ⟨q, 0, none⟩)) "Result").run Tryz.prog w = .ok (some false) w := by kernel_rfl
end Go.Proofs.YtgipddeldddbnaaGreat
