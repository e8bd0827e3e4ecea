/-
  Package parts: the cells that the machines on a deque share, and the methods that they embed.
  Package owner: the lines of Push. (Written by wip/gen_own.py.)
  Package memory: Cas.
  Package owner: the lines of Pop. (Written by wip/gen_own.py.)
  Package parts: On; package owner: Push and Pop; the methods of their machines. (Written by wip/gen_alone.py.)
  Package injector: Insert and Remove, the methods of their machines, their copies. (Written by wip/gen_inj.py.)
-/
import Derived.Test.YtanbjdlaolgepaaMgAH
import Derived.Test.YtanbjdlaolgepaaMgAA
import Derived.Test.YtanbjdlaolgepaaMgAL
import Derived.Deep.QuietTactic
import Derived.BigQuiet
import Derived.Deep.RegionHeld3
import Derived.RegionTactic
import Derived.Test.YtanbjdlaolgepaaMgAG
import Derived.Test.YtanbjdlaolgepaaMgAJ
import Derived.StillTailTactics
import Derived.Test.YtanbjdlaolgepaaInjC
namespace Go.Proofs.Ytanbjdlaolgepaa
open Go Go.RowKit Go.Shelf
set_option linter.unusedSimpArgs false

/-- The cells of what machines on a deque share. -/
abbrev ocells (f : Fra) (cd vl : Int) : List Value := [.int .i64 f.ln, .int .i64 cd, .int .i64 vl, .int .i64 f.qt, .int .i64 f.qb, .int .i64 f.qr, .int .i64 f.qc, .int .u64 f.fu, .int .u64 f.fv]
/-- Block q is a machine on a deque: what is shared, then post. -/
structure OB (w : World) (q : Nat) (ty : TypeId) (post : List Value) (f : Fra) (cd vl : Int) : Prop where
  blk : Blk w q ty (ocells f cd vl ++ post).toArray
  t1 : ty ≠ 40
  t2 : ty ≠ 112
  t3 : ty ≠ 119
  t4 : ty ≠ 48

section
variable {w w' : World} {q : Nat} {ty : TypeId} {post : List Value} {f f' : Fra} {cd vl : Int}
theorem OB.at_ (h : OB w q ty post f cd vl) (j : Nat) (hj : j < 9) : w.cell? ⟨q, j, none⟩ = (ocells f cd vl)[j]? := by
  rw [h.blk.at_, List.getElem?_toArray, List.getElem?_append_left (by simpa using hj)]
theorem OB.free (h : OB w q ty post f cd vl) (j : Nat) : w.frozen? ⟨q, j, none⟩ = false := h.blk.free j
theorem OB.put (h : OB w q ty post f cd vl) (j : Nat) (hj : j < 9) (u : Value) (f' : Fra) (cd' vl' : Int) (hf : ocells f' cd' vl' = (ocells f cd vl).set j u) : OB (w.setCell ⟨q, j, none⟩ u) q ty post f' cd' vl' := by
  refine ⟨?_, h.t1, h.t2, h.t3, h.t4⟩
  have hb := h.blk.put j u
  rw [List.setIfInBounds_toArray, List.set_append_left _ _ (by simpa using hj), ← hf] at hb
  exact hb
theorem OB.of_same (h : OB w q ty post f cd vl) (e : w'.heap[q]? = w.heap[q]?) : OB w' q ty post f cd vl := ⟨h.blk.of_same e, h.t1, h.t2, h.t3, h.t4⟩
theorem OB.fr {S : List Nat} (h : OB w q ty post f cd vl) (hf : Fr S w w') (hq : q ∉ S) : OB w' q ty post f cd vl := h.of_same (hf.block q h.blk.lt hq)
theorem OB.below (h : OB w q ty post f cd vl) (hb : Below w.heap.size w w') : OB w' q ty post f cd vl := h.of_same (hb.block q h.blk.lt)
theorem OB.drewN (h : OB w q ty post f cd vl) (n : Nat) : OB (w.drewN n) q ty post f cd vl := h.of_same rfl
theorem OB.drew (h : OB w q ty post f cd vl) : OB w.drew q ty post f cd vl := h.of_same rfl
end

section
variable {w w' : World} {p m k g cap : Nat} {s s' : St} {t d : Int} {hd : List Value} {rv ev : Value} {q : Nat} {ty : TypeId} {post : List Value} {f f' : Fra} {cd vl : Int}
theorem OB.ne (h : OB w q ty post f cd vl) (hp : PE w p m k g cap s t d hd rv ev) : q ≠ p ∧ q ≠ m ∧ q ≠ k ∧ q ≠ g := by
  obtain ⟨cur, hb, _⟩ := hp.mem.row.blk
  exact ⟨h.blk.apart hp.blk h.t1, h.blk.apart hp.mem.blk h.t2, h.blk.apart hp.clk h.t3, h.blk.apart hb h.t4⟩
theorem PE.own (hp : PE w p m k g cap s t d hd rv ev) (h : OB w q ty post f cd vl) (hf : Fr [q] w w') : PE w' p m k g cap s t d hd rv ev := by
  obtain ⟨n1, n2, n3, n4⟩ := h.ne hp
  exact hp.fr hf (by simpa using n1.symm) (by simpa using n2.symm) (by simpa using n3.symm) (by simpa using n4.symm)
theorem OB.acc (h : OB w q ty post f cd vl) (hp : PE w p m k g cap s t d hd rv ev) (hf : Fr [m, g] w w') : OB w' q ty post f cd vl := by
  obtain ⟨n1, n2, n3, n4⟩ := h.ne hp
  exact h.fr hf (by simp [n2, n4])

/-- The line that is next. -/
theorem oline_any (h : OB w q ty post f cd vl) :
    Calls Try.prog 71 #[.pointer (some ⟨q, 0, none⟩)] w fun e w' => e = .returned (.int .i64 f.ln) ∧ w = w' := by
  have c0 : w.cell? ⟨q, 0, none⟩ = some (.int .i64 f.ln) := h.at_ 0 (by omega)
  clear h
  go_enter Try.func71, Try.ntmps71
  go_wp2
  go_ret
  exact ⟨rfl, rfl⟩

/-- The next line. -/
theorem onext_any (h : OB w q ty post f cd vl) (l : Int) :
    Calls Try.prog 76 #[.pointer (some ⟨q, 0, none⟩), .int .i64 l] w fun e w' => e = .returned (.bool false) ∧ OB w' q ty post { f with ln := l } cd vl ∧ Fr [q] w w' := by
  have c6 : w.cell? ⟨q, 0, none⟩ = some (.int .i64 f.ln) := h.at_ 0 (by omega)
  have k6 := h.free 0
  have H := Lib.hid h
  clear h
  go_enter Try.func76, Try.ntmps76
  go_wp2
  go_ret
  exact ⟨rfl, H.out.put 0 (by omega) (.int .i64 l) { f with ln := l } cd vl rfl, (Fr.refl _ _).setCell (by simp) _⟩

/-- The end. -/
theorem oend_any (h : OB w q ty post f cd vl) (c v : Int) :
    Calls Try.prog 75 #[.pointer (some ⟨q, 0, none⟩), .int .i64 c, .int .i64 v] w fun e w' => e = .returned (.bool true) ∧ OB w' q ty post { f with ln := 0 } c v ∧ Fr [q] w w' := by
  have c6 : w.cell? ⟨q, 0, none⟩ = some (.int .i64 f.ln) := h.at_ 0 (by omega)
  have c7 : w.cell? ⟨q, 1, none⟩ = some (.int .i64 cd) := h.at_ 1 (by omega)
  have c8 : w.cell? ⟨q, 2, none⟩ = some (.int .i64 vl) := h.at_ 2 (by omega)
  have k6 := h.free 0
  have k7 := h.free 1
  have k8 := h.free 2
  have H := Lib.hid h
  clear h
  go_enter Try.func75, Try.ntmps75
  go_wp2
  go_ret
  exact ⟨rfl, ((H.out.put 0 (by omega) (.int .i64 0) { f with ln := 0 } cd vl rfl).put 1 (by omega) (.int .i64 c) { f with ln := 0 } c vl rfl).put 2 (by omega) (.int .i64 v) { f with ln := 0 } c v rfl,
    (((Fr.refl [q] _).setCell (by simp) _).setCell (by simp) _).setCell (by simp) _⟩

/-- The result. -/
theorem oresult_any (h : OB w q ty post f cd vl) :
    Calls Try.prog 72 #[.pointer (some ⟨q, 0, none⟩)] w fun e w' => e = .returned (.tuple #[.int .i64 cd, .int .i64 vl]) ∧ ∃ n, w' = w.drewN n := by
  have c7 : w.cell? ⟨q, 1, none⟩ = some (.int .i64 cd) := h.at_ 1 (by omega)
  have c8 : w.cell? ⟨q, 2, none⟩ = some (.int .i64 vl) := h.at_ 2 (by omega)
  clear h
  go_enter Try.func72, Try.ntmps72
  go_wp2_with fail
  go_quiet (fail)
  go_wp2
  go_ret2
  exact ⟨rfl, _, rfl⟩

/-- What a load into a field gives. -/
def OLoaded (w : World) (p m k g cap : Nat) (s' : St) (t d : Int) (hd : List Value) (rv ev : Value) (q : Nat) (ty : TypeId) (post : List Value) (f' : Fra) (cd vl : Int) (e : Ending) (w' : World) : Prop :=
  e = .returned (.tuple #[]) ∧ PE w' p m k g cap s' t d hd rv ev ∧ OB w' q ty post f' cd vl ∧ Fr [m, g, q] w w'

end
end Go.Proofs.Ytanbjdlaolgepaa

namespace Go.Proofs.Ytanbjdlaolgepaa
open Go Go.RowKit Go.Shelf
set_option linter.unusedSimpArgs false
set_option linter.unusedVariables false

/-- What a step of a machine of the owner gives. -/
def PStepped (w : World) (p m k g cap : Nat) (s' : St) (t d : Int) (hd : List Value) (rv ev : Value) (q : Nat) (ty : TypeId) (post : List Value) (f' : Fra) (r : Res) (e : Ending) (w' : World) : Prop :=
  e = .returned (.bool r.dn) ∧ PE w' p m k g cap s' t d hd rv ev ∧ OB w' q ty post (if r.dn then { f' with ln := 0 } else f') r.cd r.vl ∧ Fr [m, g, q] w w'

section
variable {w : World} {p m k g cap : Nat} {s : St} {t d : Int} {hd : List Value} {rv ev : Value} {q : Nat} {f : Fra}

end
end Go.Proofs.Ytanbjdlaolgepaa

namespace Go.Proofs.Ytanbjdlaolgepaa
open Go Go.RowKit Go.Shelf

end Go.Proofs.Ytanbjdlaolgepaa

namespace Go.Proofs.Ytanbjdlaolgepaa
open Go Go.RowKit Go.Shelf
set_option linter.unusedSimpArgs false
set_option linter.unusedVariables false

section
variable {w : World} {p m k g cap : Nat} {s : St} {t d : Int} {hd : List Value} {rv ev : Value} {q : Nat} {f : Fra}

end
end Go.Proofs.Ytanbjdlaolgepaa

namespace Go.Proofs.Ytanbjdlaolgepaa
open Go Go.RowKit Go.Shelf
set_option linter.unusedSimpArgs false

abbrev begcells : Array Value := #[.int .i64 1, .int .i64 0, .int .i64 0]
abbrev dzero : Array Value := #[.int .i64 0, .int .i64 0, .int .i64 0, .int .i64 0, .int .i64 0, .int .i64 0, .int .i64 0, .int .u64 0, .int .u64 0]
theorem lbegin_any (w : World) : Calls Try.prog 23 #[] w fun e w' => e = .returned (.agg begcells) ∧ Below w.heap.size w w' := by
  have HB := Lib.hid (below_one w (.cells begcells 78))
  have HX := Lib.hid (Blk.made w 78 begcells)
  go_enter Try.func23, Try.ntmps23
  go_wp2
  refine bodyPost_ret (results_cell_row (P := Try.prog) Try.results23 _ _ w.heap.size 78 _ (0, 0) _ rfl HX.out Try.underlying78 rfl (by kernel_rfl)) rfl ?_
  exact ⟨rfl, HB.out⟩

theorem fr_rowP (w : World) (g : Nat) (cs : Array Value) : Fr [g] w (w.setRow g cs) := ⟨rfl, rfl, rfl, by simp, fun k _ hn => setRow_other w g k cs (fun e => hn (by simp [e]))⟩
end Go.Proofs.Ytanbjdlaolgepaa

namespace Go.Proofs.Ytanbjdlaolgepaa
open Go Go.RowKit Go.Shelf
set_option linter.unusedSimpArgs false
set_option linter.unusedVariables false


/-- What Insert gives. -/
def inserter_made (a b : Int) (w : World) (e : Ending) (w' : World) : Prop :=
  ∃ q : Nat, e = .returned (.iface 76 (.pointer (some ⟨q, 0, none⟩))) ∧ LB w' q 83 (ipost { fra1 10 0 0 0 0 a with fb := b }) { fra1 10 0 0 0 0 a with fb := b } 0 0 ∧ w.heap.size ≤ q ∧ Below w.heap.size w w'
set_option maxHeartbeats 2000000 in
theorem inserter_new (a b : Int) (w : World) : Calls Try.prog 9 #[.int .i64 a, .int .i64 b] w (inserter_made a b w) := by
  go_enter Try.func9, Try.ntmps9
  go_wp2_with fail
  (with_reducible refine (lbegin_any _).mono ?_)
  rintro e w1 ⟨rfl, hb⟩
  have HB := Lib.hid hb
  clear hb
  go_wp2
  go_ret
  have hs := HB.out.size
  refine ⟨w1.heap.size, rfl, ⟨Blk.made w1 _ _, by decide, by decide, by decide, by decide⟩, hs, HB.out.trans ((below_one w1 _).mono hs)⟩
theorem meth_step_inserter (q : Nat) (w : World) : (method 257 76 (.pointer (some ⟨q, 0, none⟩)) "Step").run Try.prog w = .ok (73, .pointer (some ⟨q, 0, none⟩)) w := by kernel_rfl
theorem ahead_step_inserter (q : Nat) (w : World) : (nilAhead 257 76 (.pointer (some ⟨q, 0, none⟩)) "Step").run Try.prog w = .ok (some false) w := by kernel_rfl
theorem meth_result_inserter (q : Nat) (w : World) : (method 257 76 (.pointer (some ⟨q, 0, none⟩)) "Result").run Try.prog w = .ok (72, .pointer (some ⟨q, 0, none⟩)) w := by kernel_rfl
theorem ahead_result_inserter (q : Nat) (w : World) : (nilAhead 257 76 (.pointer (some ⟨q, 0, none⟩)) "Result").run Try.prog w = .ok (some false) w := by kernel_rfl

/-- What Remove gives. -/
def remover_made (a : Int) (w : World) (e : Ending) (w' : World) : Prop :=
  ∃ q : Nat, e = .returned (.iface 87 (.pointer (some ⟨q, 0, none⟩))) ∧ LB w' q 89 (rpost (fra1 11 0 0 0 0 a)) (fra1 11 0 0 0 0 a) 0 0 ∧ w.heap.size ≤ q ∧ Below w.heap.size w w'
set_option maxHeartbeats 2000000 in
theorem remover_new (a : Int) (w : World) : Calls Try.prog 12 #[.int .i64 a] w (remover_made a w) := by
  go_enter Try.func12, Try.ntmps12
  go_wp2_with fail
  (with_reducible refine (lbegin_any _).mono ?_)
  rintro e w1 ⟨rfl, hb⟩
  have HB := Lib.hid hb
  clear hb
  go_wp2
  go_ret
  have hs := HB.out.size
  refine ⟨w1.heap.size, rfl, ⟨Blk.made w1 _ _, by decide, by decide, by decide, by decide⟩, hs, HB.out.trans ((below_one w1 _).mono hs)⟩
theorem meth_step_remover (q : Nat) (w : World) : (method 257 87 (.pointer (some ⟨q, 0, none⟩)) "Step").run Try.prog w = .ok (96, .pointer (some ⟨q, 0, none⟩)) w := by kernel_rfl
theorem ahead_step_remover (q : Nat) (w : World) : (nilAhead 257 87 (.pointer (some ⟨q, 0, none⟩)) "Step").run Try.prog w = .ok (some false) w := by kernel_rfl
theorem meth_result_remover (q : Nat) (w : World) : (method 257 87 (.pointer (some ⟨q, 0, none⟩)) "Result").run Try.prog w = .ok (72, .pointer (some ⟨q, 0, none⟩)) w := by kernel_rfl
theorem ahead_result_remover (q : Nat) (w : World) : (nilAhead 257 87 (.pointer (some ⟨q, 0, none⟩)) "Result").run Try.prog w = .ok (some false) w := by kernel_rfl

end Go.Proofs.Ytanbjdlaolgepaa
