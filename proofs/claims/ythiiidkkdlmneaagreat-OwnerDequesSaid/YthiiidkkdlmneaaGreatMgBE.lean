/-
  Package owner: Push and Pop; the methods of their machines. (Written by wip/gen_alone.py.)
  Package owner: Copy of its machines. (Written by wip/gen_match.py.)
-/
import Derived.Test.YthiiidkkdlmneaaGreatOwC
import Derived.Test.YthiiidkkdlmneaaGreatMgAA
import Derived.Test.YthiiidkkdlmneaaGreatDuo
namespace Go.Proofs.YthiiidkkdlmneaaGreat
open Go Go.RowKit Go.Shelf
set_option linter.unusedSimpArgs false

/-- A frame at its first line. -/
abbrev fra1 (kd t b r k a : Int) : Fra := ⟨kd, 1, t, b, r, k, a, 0, 0, 0, 0, 0, 0, 0, 0, 0, 0, .slice none 0 0⟩
abbrev qcells (t b r k : Int) : Array Value := #[.int .i64 t, .int .i64 b, .int .i64 r, .int .i64 k]
theorem obegin_any (t b r k : Int) (w : World) : Calls Tryz.prog 28 #[qv t b r k] w fun e w' => e = .returned (.agg (ocells (fra1 0 t b r k 0) 0 0).toArray) ∧ Below w.heap.size w w' := by
  have hs : ∀ o o', Below w.heap.size w ((w.alloc o).alloc o') := fun o o' => ((Below.refl _ _).alloc (Nat.le_refl _) o).alloc (by simp) o'
  have HB := Lib.hid hs
  have hX := Blk.made (w.alloc (.cells (qcells t b r k) 27)) 90 (ocells (fra1 0 t b r k 0) 0 0).toArray
  rw [show (w.alloc (.cells (qcells t b r k) 27)).heap.size = w.heap.size + 1 by simp] at hX
  have HX := Lib.hid hX
  clear hs hX
  go_enter Tryz.func28, Tryz.ntmps28
  go_wp2
  refine bodyPost_ret (results_cell_row (P := Tryz.prog) Tryz.results28 _ _ (w.heap.size + 1) 90 _ (0, 0) _ rfl HX.out Tryz.underlying90 rfl (by kernel_rfl)) rfl ?_
  exact ⟨rfl, HB.out _ _⟩

/-- What Push gives: a machine at its first line. -/
def Pushed (t b r k v : Int) (w : World) (e : Ending) (w' : World) : Prop :=
  ∃ q : Nat, e = .returned (.iface 88 (.pointer (some ⟨q, 0, none⟩))) ∧ OB w' q 93 [.int .i64 v] (fra1 0 t b r k v) 0 0 ∧ w.heap.size ≤ q ∧ Below w.heap.size w w'
set_option maxHeartbeats 2000000 in
theorem oPush_any (t b r k : Int) (v : Int) (w : World) : Calls Tryz.prog 11 #[qv t b r k, .int .i64 v] w (Pushed t b r k v w) := by
  have HQ := Lib.hid (below_one w (.cells (qcells t b r k) 27))
  go_enter Tryz.func11, Tryz.ntmps11
  go_wp2_with fail
  (with_reducible refine (obegin_any t b r k _).mono ?_)
  rintro e w1 ⟨rfl, hb⟩
  have HB := Lib.hid (HQ.out.trans (hb.mono HQ.out.size))
  clear hb
  go_wp2
  go_ret
  have hs := HB.out.size
  refine ⟨w1.heap.size, rfl, ⟨Blk.made w1 _ _, by decide, by decide, by decide, by decide⟩, hs, HB.out.trans ((below_one w1 _).mono hs)⟩

/-- Its methods. -/
theorem meth_step_pusher (q : Nat) (w : World) : (method 291 88 (.pointer (some ⟨q, 0, none⟩)) "Step").run Tryz.prog w = .ok (151, .pointer (some ⟨q, 0, none⟩)) w := by kernel_rfl
theorem ahead_step_pusher (q : Nat) (w : World) : (nilAhead 291 88 (.pointer (some ⟨q, 0, none⟩)) "Step").run Tryz.prog w = .ok (some false) w := by kernel_rfl
theorem meth_result_pusher (q : Nat) (w : World) : (method 291 88 (.pointer (some ⟨q, 0, none⟩)) "Result").run Tryz.prog w = .ok (150, .pointer (some ⟨q, 0, none⟩)) w := by kernel_rfl
theorem ahead_result_pusher (q : Nat) (w : World) : (nilAhead 291 88 (.pointer (some ⟨q, 0, none⟩)) "Result").run Tryz.prog w = .ok (some false) w := by kernel_rfl

/-- What Pop gives: a machine at its first line. -/
def Poped (t b r k : Int) (w : World) (e : Ending) (w' : World) : Prop :=
  ∃ q : Nat, e = .returned (.iface 94 (.pointer (some ⟨q, 0, none⟩))) ∧ OB w' q 96 [] (fra1 1 t b r k 0) 0 0 ∧ w.heap.size ≤ q ∧ Below w.heap.size w w'
set_option maxHeartbeats 2000000 in
theorem oPop_any (t b r k : Int) (w : World) : Calls Tryz.prog 13 #[qv t b r k] w (Poped t b r k w) := by
  have HQ := Lib.hid (below_one w (.cells (qcells t b r k) 27))
  go_enter Tryz.func13, Tryz.ntmps13
  go_wp2_with fail
  (with_reducible refine (obegin_any t b r k _).mono ?_)
  rintro e w1 ⟨rfl, hb⟩
  have HB := Lib.hid (HQ.out.trans (hb.mono HQ.out.size))
  clear hb
  go_wp2
  go_ret
  have hs := HB.out.size
  refine ⟨w1.heap.size, rfl, ⟨Blk.made w1 _ _, by decide, by decide, by decide, by decide⟩, hs, HB.out.trans ((below_one w1 _).mono hs)⟩

/-- Its methods. -/
theorem meth_step_popper (q : Nat) (w : World) : (method 291 94 (.pointer (some ⟨q, 0, none⟩)) "Step").run Tryz.prog w = .ok (161, .pointer (some ⟨q, 0, none⟩)) w := by kernel_rfl
theorem ahead_step_popper (q : Nat) (w : World) : (nilAhead 291 94 (.pointer (some ⟨q, 0, none⟩)) "Step").run Tryz.prog w = .ok (some false) w := by kernel_rfl
theorem meth_result_popper (q : Nat) (w : World) : (method 291 94 (.pointer (some ⟨q, 0, none⟩)) "Result").run Tryz.prog w = .ok (150, .pointer (some ⟨q, 0, none⟩)) w := by kernel_rfl
theorem ahead_result_popper (q : Nat) (w : World) : (nilAhead 291 94 (.pointer (some ⟨q, 0, none⟩)) "Result").run Tryz.prog w = .ok (some false) w := by kernel_rfl

end Go.Proofs.YthiiidkkdlmneaaGreat

namespace Go.Proofs.YthiiidkkdlmneaaGreat
open Go Go.RowKit Go.Shelf
set_option linter.unusedSimpArgs false

theorem copy_pusher {w : World} {q : Nat} {f : Fra} {cd vl : Int} (h : OB w q 93 [.int .i64 f.fa] f cd vl) :
    Calls Tryz.prog 149 #[.pointer (some ⟨q, 0, none⟩)] w fun e w' => e = .returned (.iface 88 (.pointer (some ⟨w.heap.size, 0, none⟩))) ∧ OB w' w.heap.size 93 [.int .i64 f.fa] f cd vl ∧ Below w.heap.size w w' := by
  have c0 : w.cell? ⟨q, 0, none⟩ = some (.int .i64 f.qt) := h.blk.at_ 0
  have c1 : w.cell? ⟨q, 1, none⟩ = some (.int .i64 f.qb) := h.blk.at_ 1
  have c2 : w.cell? ⟨q, 2, none⟩ = some (.int .i64 f.qr) := h.blk.at_ 2
  have c3 : w.cell? ⟨q, 3, none⟩ = some (.int .i64 f.qc) := h.blk.at_ 3
  have c4 : w.cell? ⟨q, 4, none⟩ = some (.int .u64 f.fu) := h.blk.at_ 4
  have c5 : w.cell? ⟨q, 5, none⟩ = some (.int .u64 f.fv) := h.blk.at_ 5
  have c6 : w.cell? ⟨q, 6, none⟩ = some (.int .i64 f.ln) := h.blk.at_ 6
  have c7 : w.cell? ⟨q, 7, none⟩ = some (.int .i64 cd) := h.blk.at_ 7
  have c8 : w.cell? ⟨q, 8, none⟩ = some (.int .i64 vl) := h.blk.at_ 8
  have c9 : w.cell? ⟨q, 9, none⟩ = some (.int .i64 f.fa) := h.blk.at_ 9
  clear h
  go_enter Tryz.func149, Tryz.ntmps149
  go_wp2
  go_ret
  exact ⟨rfl, ⟨Blk.made w _ _, by decide, by decide, by decide, by decide⟩, below_one w _⟩
theorem meth_copy_pusher (q : Nat) (w : World) : (method 291 88 (.pointer (some ⟨q, 0, none⟩)) "Copy").run Tryz.prog w = .ok (149, .pointer (some ⟨q, 0, none⟩)) w := by kernel_rfl
theorem ahead_copy_pusher (q : Nat) (w : World) : (nilAhead 291 88 (.pointer (some ⟨q, 0, none⟩)) "Copy").run Tryz.prog w = .ok (some false) w := by kernel_rfl
theorem odd_pusher : Odd 93 := ⟨by decide, by decide, by decide, by decide, by decide, by decide, by decide, by decide⟩

theorem copy_popper {w : World} {q : Nat} {f : Fra} {cd vl : Int} (h : OB w q 96 [] f cd vl) :
    Calls Tryz.prog 160 #[.pointer (some ⟨q, 0, none⟩)] w fun e w' => e = .returned (.iface 94 (.pointer (some ⟨w.heap.size, 0, none⟩))) ∧ OB w' w.heap.size 96 [] f cd vl ∧ Below w.heap.size w w' := by
  have c0 : w.cell? ⟨q, 0, none⟩ = some (.int .i64 f.qt) := h.blk.at_ 0
  have c1 : w.cell? ⟨q, 1, none⟩ = some (.int .i64 f.qb) := h.blk.at_ 1
  have c2 : w.cell? ⟨q, 2, none⟩ = some (.int .i64 f.qr) := h.blk.at_ 2
  have c3 : w.cell? ⟨q, 3, none⟩ = some (.int .i64 f.qc) := h.blk.at_ 3
  have c4 : w.cell? ⟨q, 4, none⟩ = some (.int .u64 f.fu) := h.blk.at_ 4
  have c5 : w.cell? ⟨q, 5, none⟩ = some (.int .u64 f.fv) := h.blk.at_ 5
  have c6 : w.cell? ⟨q, 6, none⟩ = some (.int .i64 f.ln) := h.blk.at_ 6
  have c7 : w.cell? ⟨q, 7, none⟩ = some (.int .i64 cd) := h.blk.at_ 7
  have c8 : w.cell? ⟨q, 8, none⟩ = some (.int .i64 vl) := h.blk.at_ 8
  clear h
  go_enter Tryz.func160, Tryz.ntmps160
  go_wp2
  go_ret
  exact ⟨rfl, ⟨Blk.made w _ _, by decide, by decide, by decide, by decide⟩, below_one w _⟩
theorem meth_copy_popper (q : Nat) (w : World) : (method 291 94 (.pointer (some ⟨q, 0, none⟩)) "Copy").run Tryz.prog w = .ok (160, .pointer (some ⟨q, 0, none⟩)) w := by kernel_rfl
theorem ahead_copy_popper (q : Nat) (w : World) : (nilAhead 291 94 (.pointer (some ⟨q, 0, none⟩)) "Copy").run Tryz.prog w = .ok (some false) w := by kernel_rfl
theorem odd_popper : Odd 96 := ⟨by decide, by decide, by decide, by decide, by decide, by decide, by decide, by decide⟩

end Go.Proofs.YthiiidkkdlmneaaGreat
