/-
  Package owner: Push and Pop; the methods of their machines. (Written by wip/gen_alone.py.)
  What an access changes of a memory's state. No function is named.
-/
import Derived.Test.YthiiidkkdlmneaaOwC
import Derived.Test.YthiiidkkdlmneaaMgAF
import Derived.Test.YthiiidkkdlmneaaMgAA
namespace Go.Proofs.Ythiiidkkdlmneaa
open Go Go.RowKit Go.Shelf
set_option linter.unusedSimpArgs false

/-- A frame at its first line. -/
abbrev fra1 (kd t b r k a : Int) : Fra := ⟨kd, 1, t, b, r, k, a, 0, 0, 0, 0, 0, 0, 0, 0, 0, 0, .slice none 0 0⟩
abbrev qcells (t b r k : Int) : Array Value := #[.int .i64 t, .int .i64 b, .int .i64 r, .int .i64 k]
theorem obegin_any (t b r k : Int) (w : World) : Calls Try.prog 52 #[qv t b r k] w fun e w' => e = .returned (.agg (ocells (fra1 0 t b r k 0) 0 0).toArray) ∧ Below w.heap.size w w' := by
  have hs : ∀ o o', Below w.heap.size w ((w.alloc o).alloc o') := fun o o' => ((Below.refl _ _).alloc (Nat.le_refl _) o).alloc (by simp) o'
  have HB := Lib.hid hs
  have hX := Blk.made (w.alloc (.cells (qcells t b r k) 53)) 118 (ocells (fra1 0 t b r k 0) 0 0).toArray
  rw [show (w.alloc (.cells (qcells t b r k) 53)).heap.size = w.heap.size + 1 by simp] at hX
  have HX := Lib.hid hX
  clear hs hX
  go_enter Try.func52, Try.ntmps52
  go_wp2
  refine bodyPost_ret (results_cell_row (P := Try.prog) Try.results52 _ _ (w.heap.size + 1) 118 _ (0, 0) _ rfl HX.out Try.underlying118 rfl (by kernel_rfl)) rfl ?_
  exact ⟨rfl, HB.out _ _⟩

/-- What Push gives: a machine at its first line. -/
def Pushed (t b r k v : Int) (w : World) (e : Ending) (w' : World) : Prop :=
  ∃ q : Nat, e = .returned (.iface 116 (.pointer (some ⟨q, 0, none⟩))) ∧ OB w' q 121 [.int .i64 v] (fra1 0 t b r k v) 0 0 ∧ w.heap.size ≤ q ∧ Below w.heap.size w w'
set_option maxHeartbeats 2000000 in
theorem oPush_any (t b r k : Int) (v : Int) (w : World) : Calls Try.prog 22 #[qv t b r k, .int .i64 v] w (Pushed t b r k v w) := by
  have HQ := Lib.hid (below_one w (.cells (qcells t b r k) 53))
  go_enter Try.func22, Try.ntmps22
  go_wp2_with fail
  (with_reducible refine (obegin_any t b r k _).mono ?_)
  rintro e w1 ⟨rfl, hb⟩
  have HB := Lib.hid (HQ.out.trans (hb.mono HQ.out.size))
  clear hb
  go_wp2
  go_ret
  have hs := HB.out.size
  refine ⟨w1.heap.size, rfl, ⟨Blk.made w1 _ _, by decide, by decide, by decide, by decide⟩, hs, HB.out.trans ((below_one w1 _).mono hs)⟩

/-- Its methods. -/
theorem meth_step_pusher (q : Nat) (w : World) : (method 275 116 (.pointer (some ⟨q, 0, none⟩)) "Step").run Try.prog w = .ok (102, .pointer (some ⟨q, 0, none⟩)) w := by kernel_rfl
theorem ahead_step_pusher (q : Nat) (w : World) : (nilAhead 275 116 (.pointer (some ⟨q, 0, none⟩)) "Step").run Try.prog w = .ok (some false) w := by kernel_rfl
theorem meth_result_pusher (q : Nat) (w : World) : (method 275 116 (.pointer (some ⟨q, 0, none⟩)) "Result").run Try.prog w = .ok (101, .pointer (some ⟨q, 0, none⟩)) w := by kernel_rfl
theorem ahead_result_pusher (q : Nat) (w : World) : (nilAhead 275 116 (.pointer (some ⟨q, 0, none⟩)) "Result").run Try.prog w = .ok (some false) w := by kernel_rfl

/-- What Pop gives: a machine at its first line. -/
def Poped (t b r k : Int) (w : World) (e : Ending) (w' : World) : Prop :=
  ∃ q : Nat, e = .returned (.iface 122 (.pointer (some ⟨q, 0, none⟩))) ∧ OB w' q 124 [] (fra1 1 t b r k 0) 0 0 ∧ w.heap.size ≤ q ∧ Below w.heap.size w w'
set_option maxHeartbeats 2000000 in
theorem oPop_any (t b r k : Int) (w : World) : Calls Try.prog 23 #[qv t b r k] w (Poped t b r k w) := by
  have HQ := Lib.hid (below_one w (.cells (qcells t b r k) 53))
  go_enter Try.func23, Try.ntmps23
  go_wp2_with fail
  (with_reducible refine (obegin_any t b r k _).mono ?_)
  rintro e w1 ⟨rfl, hb⟩
  have HB := Lib.hid (HQ.out.trans (hb.mono HQ.out.size))
  clear hb
  go_wp2
  go_ret
  have hs := HB.out.size
  refine ⟨w1.heap.size, rfl, ⟨Blk.made w1 _ _, by decide, by decide, by decide, by decide⟩, hs, HB.out.trans ((below_one w1 _).mono hs)⟩

/-- Its methods. -/
theorem meth_step_popper (q : Nat) (w : World) : (method 275 122 (.pointer (some ⟨q, 0, none⟩)) "Step").run Try.prog w = .ok (112, .pointer (some ⟨q, 0, none⟩)) w := by kernel_rfl
theorem ahead_step_popper (q : Nat) (w : World) : (nilAhead 275 122 (.pointer (some ⟨q, 0, none⟩)) "Step").run Try.prog w = .ok (some false) w := by kernel_rfl
theorem meth_result_popper (q : Nat) (w : World) : (method 275 122 (.pointer (some ⟨q, 0, none⟩)) "Result").run Try.prog w = .ok (101, .pointer (some ⟨q, 0, none⟩)) w := by kernel_rfl
theorem ahead_result_popper (q : Nat) (w : World) : (nilAhead 275 122 (.pointer (some ⟨q, 0, none⟩)) "Result").run Try.prog w = .ok (some false) w := by kernel_rfl

end Go.Proofs.Ythiiidkkdlmneaa

namespace Go.Proofs.Ythiiidkkdlmneaa
open Go Go.RowKit

theorem go_len (s : St) (k i : Int) (F : Int → Int) : (s.go k i F).X.length = s.X.length := by
  unfold St.go
  split
  · simp [St.acc]
  · rfl
theorem go_has (s : St) (k i j : Int) (F : Int → Int) : (s.go k i F).has j ↔ s.has j := by
  unfold St.has
  rw [go_len]
theorem go_old (s : St) (k i : Int) (F : Int → Int) (h : s.has i) : (s.go k i F).old i = F (s.old i) := by
  have h' := (go_has s k i i F).2 h
  unfold St.old
  rw [if_pos h', if_pos h]
  unfold St.go
  rw [if_pos h]
  have h2 : i.toNat < s.X.length := by have := h.1; have := h.2; omega
  simp [St.acc, List.getD_eq_getElem?_getD, h2]
theorem go_other (s : St) (k i j : Int) (F : Int → Int) (h : i ≠ j) : (s.go k i F).old j = s.old j := by
  unfold St.old
  by_cases hj : s.has j
  · rw [if_pos hj, if_pos ((go_has s k i j F).2 hj)]
    unfold St.go
    split
    · rename_i hi
      have : i.toNat ≠ j.toNat := by have := hi.1; have := hj.1; omega
      simp [St.acc, List.getD_eq_getElem?_getD, this]
    · rfl
  · rw [if_neg hj, if_neg (fun h => hj ((go_has s k i j F).1 h))]
end Go.Proofs.Ythiiidkkdlmneaa
