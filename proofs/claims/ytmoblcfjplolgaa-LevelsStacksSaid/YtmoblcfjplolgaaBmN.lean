/-
  Package bitmap: Set and Clear, the methods of their machines. (Written by wip/gen_bm.py.)
-/
import Derived.Test.YtmoblcfjplolgaaBmA
import Derived.Test.YtmoblcfjplolgaaOwN
namespace Go.Proofs.Ytmoblcfjplolgaa
open Go Go.RowKit Go.Shelf
set_option linter.unusedSimpArgs false
/-- The frames of Set and Clear at their first line. -/
abbrev fraS (c b : Int) : Fra := { fra1 3 0 0 0 0 c with fb := b }
abbrev fraC (c b t bo r k : Int) : Fra := { fra1 4 t bo r k c with fb := b }
/-- What Set gives. -/
def Seted (c b : Int) (w : World) (e : Ending) (w' : World) : Prop :=
  ∃ q : Nat, e = .returned (.iface 158 (.pointer (some ⟨q, 0, none⟩))) ∧ LB w' q 163 [.int .i64 c, .int .u64 (maskS b)] (fraS c b) 0 0 ∧ w.heap.size ≤ q ∧ Below w.heap.size w w'
/-- What Clear gives. -/
def Cleared (c b t bo r k : Int) (w : World) (e : Ending) (w' : World) : Prop :=
  ∃ q : Nat, e = .returned (.iface 174 (.pointer (some ⟨q, 0, none⟩))) ∧ OB w' q 176 [.int .i64 c, .int .u64 (maskS b)] (fraC c b t bo r k) 0 0 ∧ w.heap.size ≤ q ∧ Below w.heap.size w w'
set_option maxHeartbeats 2000000 in
theorem bSet_any (c b : Int) (w : World) : Calls Try.prog 78 #[.int .i64 c, .int .i64 b] w (Seted c b w) := by
  go_enter Try.func78, Try.ntmps78
  go_wp2_with fail
  (with_reducible refine (lbegin_any _).mono ?_)
  rintro e w1 ⟨rfl, hb⟩
  have HB := Lib.hid hb
  clear hb
  go_wp2_with fail
  (with_reducible refine (at_any c b _).mono ?_)
  rintro e w2 ⟨rfl, hb⟩
  have HB2 := Lib.hid (HB.out.trans (hb.mono HB.out.size))
  clear hb HB
  go_wp2
  go_ret
  have hs := HB2.out.size
  refine ⟨w2.heap.size, rfl, ⟨Blk.made w2 _ _, by decide, by decide, by decide, by decide⟩, hs, HB2.out.trans ((below_one w2 _).mono hs)⟩
set_option maxHeartbeats 2000000 in
theorem bClear_any (c b t bo r k : Int) (w : World) : Calls Try.prog 93 #[.int .i64 c, .int .i64 b, qv t bo r k] w (Cleared c b t bo r k w) := by
  have HQ := Lib.hid (below_one w (.cells (qcells t bo r k) 53))
  go_enter Try.func93, Try.ntmps93
  go_wp2_with fail
  (with_reducible refine (on_any t bo r k _).mono ?_)
  rintro e w1 ⟨rfl, hb⟩
  have HB := Lib.hid (HQ.out.trans (hb.mono HQ.out.size))
  clear hb
  go_wp2_with fail
  (with_reducible refine (at_any c b _).mono ?_)
  rintro e w2 ⟨rfl, hb⟩
  have HB2 := Lib.hid (HB.out.trans (hb.mono HB.out.size))
  clear hb HB
  go_wp2
  go_ret
  have hs := HB2.out.size
  refine ⟨w2.heap.size, rfl, ⟨Blk.made w2 _ _, by decide, by decide, by decide, by decide⟩, hs, HB2.out.trans ((below_one w2 _).mono hs)⟩

/-- Its methods. -/
theorem meth_step_setter (q : Nat) (w : World) : (method 284 158 (.pointer (some ⟨q, 0, none⟩)) "Step").run Try.prog w = .ok (107, .pointer (some ⟨q, 0, none⟩)) w := by kernel_rfl
theorem ahead_step_setter (q : Nat) (w : World) : (nilAhead 284 158 (.pointer (some ⟨q, 0, none⟩)) "Step").run Try.prog w = .ok (some false) w := by kernel_rfl
theorem meth_result_setter (q : Nat) (w : World) : (method 284 158 (.pointer (some ⟨q, 0, none⟩)) "Result").run Try.prog w = .ok (68, .pointer (some ⟨q, 0, none⟩)) w := by kernel_rfl
theorem ahead_result_setter (q : Nat) (w : World) : (nilAhead 284 158 (.pointer (some ⟨q, 0, none⟩)) "Result").run Try.prog w = .ok (some false) w := by kernel_rfl

/-- Its methods. -/
theorem meth_step_clearer (q : Nat) (w : World) : (method 284 174 (.pointer (some ⟨q, 0, none⟩)) "Step").run Try.prog w = .ok (117, .pointer (some ⟨q, 0, none⟩)) w := by kernel_rfl
theorem ahead_step_clearer (q : Nat) (w : World) : (nilAhead 284 174 (.pointer (some ⟨q, 0, none⟩)) "Step").run Try.prog w = .ok (some false) w := by kernel_rfl
theorem meth_result_clearer (q : Nat) (w : World) : (method 284 174 (.pointer (some ⟨q, 0, none⟩)) "Result").run Try.prog w = .ok (68, .pointer (some ⟨q, 0, none⟩)) w := by kernel_rfl
theorem ahead_result_clearer (q : Nat) (w : World) : (nilAhead 284 174 (.pointer (some ⟨q, 0, none⟩)) "Result").run Try.prog w = .ok (some false) w := by kernel_rfl

end Go.Proofs.Ytmoblcfjplolgaa
