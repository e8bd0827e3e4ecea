/-
  Package owner: the lines of Push. (Written by wip/gen_own.py.)
  Package owner: the lines of Pop. (Written by wip/gen_own.py.)
  Package parts: On; package owner: Push and Pop; the methods of their machines. (Written by wip/gen_alone.py.)
  Package lock: Acquire, Try and Release, the methods of their machines. (Written by wip/gen_lk.py.)
  What an access changes of a memory's state. No function is named.
-/
import Derived.Test.YtclbkmhlgopcaaaMgAP
import Derived.Test.YtclbkmhlgopcaaaMgAM
import Derived.Test.YtclbkmhlgopcaaaMgAJ
import Derived.Test.YtclbkmhlgopcaaaMgAH
import Derived.StillTailTactics
import Derived.Test.YtclbkmhlgopcaaaLkB
import Derived.Test.YtclbkmhlgopcaaaMgAB
namespace Go.Proofs.Ytclbkmhlgopcaaa
open Go Go.RowKit Go.Shelf
set_option linter.unusedSimpArgs false
set_option linter.unusedVariables false

/-- What a step of a machine of the owner gives. -/
def PStepped (w : World) (p m k g cap : Nat) (s' : St) (t d : Int) (hd : List Value) (rv ev : Value) (q : Nat) (ty : TypeId) (post : List Value) (f' : Fra) (r : Res) (e : Ending) (w' : World) : Prop :=
  e = .returned (.bool r.dn) ∧ PE w' p m k g cap s' t d hd rv ev ∧ OB w' q ty post (if r.dn then { f' with ln := 0 } else f') r.cd r.vl ∧ Fr [m, g, q] w w'

section
variable {w : World} {p m k g cap : Nat} {s : St} {t d : Int} {hd : List Value} {rv ev : Value} {q : Nat} {f : Fra}

end
end Go.Proofs.Ytclbkmhlgopcaaa

namespace Go.Proofs.Ytclbkmhlgopcaaa
open Go Go.RowKit Go.Shelf
set_option linter.unusedSimpArgs false
set_option linter.unusedVariables false

section
variable {w : World} {p m k g cap : Nat} {s : St} {t d : Int} {hd : List Value} {rv ev : Value} {q : Nat} {f : Fra}

end
end Go.Proofs.Ytclbkmhlgopcaaa

namespace Go.Proofs.Ytclbkmhlgopcaaa
open Go Go.RowKit Go.Shelf
set_option linter.unusedSimpArgs false

abbrev begcells : Array Value := #[.int .i64 1, .int .i64 0, .int .i64 0]
abbrev dzero : Array Value := #[.int .i64 0, .int .i64 0, .int .i64 0, .int .i64 0, .int .i64 0, .int .i64 0, .int .i64 0, .int .u64 0, .int .u64 0]
theorem lbegin_any (w : World) : Calls Try.prog 20 #[] w fun e w' => e = .returned (.agg begcells) ∧ Below w.heap.size w w' := by
  have HB := Lib.hid (below_one w (.cells begcells 68))
  have HX := Lib.hid (Blk.made w 68 begcells)
  go_enter Try.func20, Try.ntmps20
  go_wp2
  refine bodyPost_ret (results_cell_row (P := Try.prog) Try.results20 _ _ w.heap.size 68 _ (0, 0) _ rfl HX.out Try.underlying68 rfl (by kernel_rfl)) rfl ?_
  exact ⟨rfl, HB.out⟩

theorem fr_rowP (w : World) (g : Nat) (cs : Array Value) : Fr [g] w (w.setRow g cs) := ⟨rfl, rfl, rfl, by simp, fun k _ hn => setRow_other w g k cs (fun e => hn (by simp [e]))⟩
end Go.Proofs.Ytclbkmhlgopcaaa

namespace Go.Proofs.Ytclbkmhlgopcaaa
open Go Go.RowKit Go.Shelf
set_option linter.unusedSimpArgs false
set_option linter.unusedVariables false


/-- What Acquire gives. -/
def acquirer_made (a : Int) (w : World) (e : Ending) (w' : World) : Prop :=
  ∃ q : Nat, e = .returned (.iface 72 (.pointer (some ⟨q, 0, none⟩))) ∧ LB w' q 76 [.int .i64 a] (fra1 7 0 0 0 0 a) 0 0 ∧ w.heap.size ≤ q ∧ Below w.heap.size w w'
set_option maxHeartbeats 2000000 in
theorem acquirer_new (a : Int) (w : World) : Calls Try.prog 10 #[.int .i64 a] w (acquirer_made a w) := by
  go_enter Try.func10, Try.ntmps10
  go_wp2_with fail
  (with_reducible refine (lbegin_any _).mono ?_)
  rintro e w1 ⟨rfl, hb⟩
  have HB := Lib.hid hb
  clear hb
  go_wp2
  go_ret
  have hs := HB.out.size
  refine ⟨w1.heap.size, rfl, ⟨Blk.made w1 _ _, by decide, by decide, by decide, by decide⟩, hs, HB.out.trans ((below_one w1 _).mono hs)⟩
theorem meth_step_acquirer (q : Nat) (w : World) : (method 238 72 (.pointer (some ⟨q, 0, none⟩)) "Step").run Try.prog w = .ok (67, .pointer (some ⟨q, 0, none⟩)) w := by kernel_rfl
theorem ahead_step_acquirer (q : Nat) (w : World) : (nilAhead 238 72 (.pointer (some ⟨q, 0, none⟩)) "Step").run Try.prog w = .ok (some false) w := by kernel_rfl
theorem meth_result_acquirer (q : Nat) (w : World) : (method 238 72 (.pointer (some ⟨q, 0, none⟩)) "Result").run Try.prog w = .ok (59, .pointer (some ⟨q, 0, none⟩)) w := by kernel_rfl
theorem ahead_result_acquirer (q : Nat) (w : World) : (nilAhead 238 72 (.pointer (some ⟨q, 0, none⟩)) "Result").run Try.prog w = .ok (some false) w := by kernel_rfl

/-- What Try gives. -/
def trier_made (a : Int) (w : World) (e : Ending) (w' : World) : Prop :=
  ∃ q : Nat, e = .returned (.iface 77 (.pointer (some ⟨q, 0, none⟩))) ∧ LB w' q 78 [.int .i64 a] (fra1 8 0 0 0 0 a) 0 0 ∧ w.heap.size ≤ q ∧ Below w.heap.size w w'
set_option maxHeartbeats 2000000 in
theorem trier_new (a : Int) (w : World) : Calls Try.prog 11 #[.int .i64 a] w (trier_made a w) := by
  go_enter Try.func11, Try.ntmps11
  go_wp2_with fail
  (with_reducible refine (lbegin_any _).mono ?_)
  rintro e w1 ⟨rfl, hb⟩
  have HB := Lib.hid hb
  clear hb
  go_wp2
  go_ret
  have hs := HB.out.size
  refine ⟨w1.heap.size, rfl, ⟨Blk.made w1 _ _, by decide, by decide, by decide, by decide⟩, hs, HB.out.trans ((below_one w1 _).mono hs)⟩
theorem meth_step_trier (q : Nat) (w : World) : (method 238 77 (.pointer (some ⟨q, 0, none⟩)) "Step").run Try.prog w = .ok (73, .pointer (some ⟨q, 0, none⟩)) w := by kernel_rfl
theorem ahead_step_trier (q : Nat) (w : World) : (nilAhead 238 77 (.pointer (some ⟨q, 0, none⟩)) "Step").run Try.prog w = .ok (some false) w := by kernel_rfl
theorem meth_result_trier (q : Nat) (w : World) : (method 238 77 (.pointer (some ⟨q, 0, none⟩)) "Result").run Try.prog w = .ok (59, .pointer (some ⟨q, 0, none⟩)) w := by kernel_rfl
theorem ahead_result_trier (q : Nat) (w : World) : (nilAhead 238 77 (.pointer (some ⟨q, 0, none⟩)) "Result").run Try.prog w = .ok (some false) w := by kernel_rfl

/-- What Release gives. -/
def releaser_made (w : World) (e : Ending) (w' : World) : Prop :=
  ∃ q : Nat, e = .returned (.iface 66 (.pointer (some ⟨q, 0, none⟩))) ∧ LB w' q 71 [] (fra1 9 0 0 0 0 0) 0 0 ∧ w.heap.size ≤ q ∧ Below w.heap.size w w'
set_option maxHeartbeats 2000000 in
theorem releaser_new (w : World) : Calls Try.prog 9 #[] w (releaser_made w) := by
  go_enter Try.func9, Try.ntmps9
  go_wp2_with fail
  (with_reducible refine (lbegin_any _).mono ?_)
  rintro e w1 ⟨rfl, hb⟩
  have HB := Lib.hid hb
  clear hb
  go_wp2
  go_ret
  have hs := HB.out.size
  refine ⟨w1.heap.size, rfl, ⟨Blk.made w1 _ _, by decide, by decide, by decide, by decide⟩, hs, HB.out.trans ((below_one w1 _).mono hs)⟩
theorem meth_step_releaser (q : Nat) (w : World) : (method 238 66 (.pointer (some ⟨q, 0, none⟩)) "Step").run Try.prog w = .ok (60, .pointer (some ⟨q, 0, none⟩)) w := by kernel_rfl
theorem ahead_step_releaser (q : Nat) (w : World) : (nilAhead 238 66 (.pointer (some ⟨q, 0, none⟩)) "Step").run Try.prog w = .ok (some false) w := by kernel_rfl
theorem meth_result_releaser (q : Nat) (w : World) : (method 238 66 (.pointer (some ⟨q, 0, none⟩)) "Result").run Try.prog w = .ok (59, .pointer (some ⟨q, 0, none⟩)) w := by kernel_rfl
theorem ahead_result_releaser (q : Nat) (w : World) : (nilAhead 238 66 (.pointer (some ⟨q, 0, none⟩)) "Result").run Try.prog w = .ok (some false) w := by kernel_rfl

end Go.Proofs.Ytclbkmhlgopcaaa

namespace Go.Proofs.Ytclbkmhlgopcaaa
open Go Go.RowKit

theorem go_len (s : St) (k i : Int) (F : Int → Int) : (s.go k i F).X.length = s.X.length := by
  unfold St.go
  split
  · simp [St.acc]
  · rfl
theorem go_has (s : St) (k i j : Int) (F : Int → Int) : (s.go k i F).has j ↔ s.has j := by
  unfold St.has
  rw [go_len]
theorem go_old (s : St) (k i : Int) (F : Int → Int) (h : s.has i) : (s.go k i F).old i = F (s.old i) := by
  have h' := (go_has s k i i F).2 h
  unfold St.old
  rw [if_pos h', if_pos h]
  unfold St.go
  rw [if_pos h]
  have h2 : i.toNat < s.X.length := by have := h.1; have := h.2; omega
  simp [St.acc, List.getD_eq_getElem?_getD, h2]
theorem go_other (s : St) (k i j : Int) (F : Int → Int) (h : i ≠ j) : (s.go k i F).old j = s.old j := by
  unfold St.old
  by_cases hj : s.has j
  · rw [if_pos hj, if_pos ((go_has s k i j F).2 hj)]
    unfold St.go
    split
    · rename_i hi
      have : i.toNat ≠ j.toNat := by have := hi.1; have := hj.1; omega
      simp [St.acc, List.getD_eq_getElem?_getD, this]
    · rfl
  · rw [if_neg hj, if_neg (fun h => hj ((go_has s k i j F).1 h))]
end Go.Proofs.Ytclbkmhlgopcaaa
