/-
  Package owner: the lines of Push. (Written by wip/gen_own.py.)
  Package owner: the lines of Pop. (Written by wip/gen_own.py.)
  Package parts: On; package owner: Push and Pop; the methods of their machines. (Written by wip/gen_alone.py.)
  Package memory: Or.
  Package memory: And.
  Package bitmap: at.
  Package bitmap: its flags, the lines of Set and Clear. (Written by wip/gen_bm.py.)
  Package bitmap: Set and Clear, the methods of their machines. (Written by wip/gen_bm.py.)
  Package levels: what each line begins. (Written by wip/gen_lv.py.)
  Package parts: Run of a machine that runs another one, for each that levels run. (Written by wip/gen_lvr.py.)
  Package levels: the steps of its machines, case by case. (Written by wip/gen_lvs.py.)
-/
import Derived.Test.YtgipddeldddbnaaMgAY
import Derived.Test.YtgipddeldddbnaaMgAT
import Derived.Test.YtgipddeldddbnaaMgAN
import Derived.Test.YtgipddeldddbnaaMgAF
import Derived.StillTailTactics
import Derived.Test.YtgipddeldddbnaaMemAcc
import Derived.Test.YtgipddeldddbnaaMgAP
import Derived.Test.YtgipddeldddbnaaMgAD
import Derived.Test.YtgipddeldddbnaaMgAQ
import Derived.Shelf.Abstract
namespace Go.Proofs.Ytgipddeldddbnaa
open Go Go.RowKit Go.Shelf
set_option linter.unusedSimpArgs false
set_option linter.unusedVariables false

/-- What a step of a machine of the owner gives. -/
def PStepped (w : World) (p m k g cap : Nat) (s' : St) (t d : Int) (hd : List Value) (rv ev : Value) (q : Nat) (ty : TypeId) (post : List Value) (f' : Fra) (r : Res) (e : Ending) (w' : World) : Prop :=
  e = .returned (.bool r.dn) ∧ PE w' p m k g cap s' t d hd rv ev ∧ OB w' q ty post (if r.dn then { f' with ln := 0 } else f') r.cd r.vl ∧ Fr [m, g, q] w w'

section
variable {w : World} {p m k g cap : Nat} {s : St} {t d : Int} {hd : List Value} {rv ev : Value} {q : Nat} {f : Fra}

end
end Go.Proofs.Ytgipddeldddbnaa

namespace Go.Proofs.Ytgipddeldddbnaa
open Go Go.RowKit Go.Shelf
set_option linter.unusedSimpArgs false
set_option linter.unusedVariables false

section
variable {w : World} {p m k g cap : Nat} {s : St} {t d : Int} {hd : List Value} {rv ev : Value} {q : Nat} {f : Fra}

end
end Go.Proofs.Ytgipddeldddbnaa

namespace Go.Proofs.Ytgipddeldddbnaa
open Go Go.RowKit Go.Shelf
set_option linter.unusedSimpArgs false

abbrev begcells : Array Value := #[.int .i64 1, .int .i64 0, .int .i64 0]
abbrev dzero : Array Value := #[.int .i64 0, .int .i64 0, .int .i64 0, .int .i64 0, .int .i64 0, .int .i64 0, .int .i64 0, .int .u64 0, .int .u64 0]
theorem lbegin_any (w : World) : Calls Try.prog 17 #[] w fun e w' => e = .returned (.agg begcells) ∧ Below w.heap.size w w' := by
  have HB := Lib.hid (below_one w (.cells begcells 64))
  have HX := Lib.hid (Blk.made w 64 begcells)
  go_enter Try.func17, Try.ntmps17
  go_wp2
  refine bodyPost_ret (results_cell_row (P := Try.prog) Try.results17 _ _ w.heap.size 64 _ (0, 0) _ rfl HX.out Try.underlying64 rfl (by kernel_rfl)) rfl ?_
  exact ⟨rfl, HB.out⟩

theorem fr_rowP (w : World) (g : Nat) (cs : Array Value) : Fr [g] w (w.setRow g cs) := ⟨rfl, rfl, rfl, by simp, fun k _ hn => setRow_other w g k cs (fun e => hn (by simp [e]))⟩
end Go.Proofs.Ytgipddeldddbnaa

namespace Go.Proofs.Ytgipddeldddbnaa
open Go Go.RowKit Go.Shelf

end Go.Proofs.Ytgipddeldddbnaa

namespace Go.Proofs.Ytgipddeldddbnaa
open Go Go.RowKit Go.Shelf

end Go.Proofs.Ytgipddeldddbnaa

namespace Go.Proofs.Ytgipddeldddbnaa
open Go Go.RowKit Go.Shelf
set_option linter.unusedSimpArgs false
set_option linter.unusedVariables false

end Go.Proofs.Ytgipddeldddbnaa

namespace Go.Proofs.Ytgipddeldddbnaa
open Go Go.RowKit Go.Shelf
set_option linter.unusedSimpArgs false
set_option linter.unusedVariables false

section
variable {w : World} {p m k g cap : Nat} {s : St} {t d : Int} {hd : List Value} {rv ev : Value} {q : Nat} {f : Fra}

end
end Go.Proofs.Ytgipddeldddbnaa

namespace Go.Proofs.Ytgipddeldddbnaa
open Go Go.RowKit Go.Shelf
set_option linter.unusedSimpArgs false
/-- The frames of Set and Clear at their first line. -/
abbrev fraS (c b : Int) : Fra := { fra1 3 0 0 0 0 c with fb := b }
abbrev fraC (c b t bo r k : Int) : Fra := { fra1 4 t bo r k c with fb := b }
end Go.Proofs.Ytgipddeldddbnaa

namespace Go.Proofs.Ytgipddeldddbnaa
open Go Go.RowKit Go.Shelf
set_option linter.unusedSimpArgs false

section
variable {w w' : World} {p m k g cap : Nat} {s s' : St} {t d : Int} {hd : List Value} {rv ev : Value} {c : Cfg} {b : Nat} {ty : TypeId} {cs : Array Value} {x y : Nat}
end
end Go.Proofs.Ytgipddeldddbnaa

namespace Go.Proofs.Ytgipddeldddbnaa
open Go Go.RowKit Go.Shelf
set_option linter.unusedSimpArgs false

section
variable {w w' : World} {b : Nat} {ty : TypeId} {post : List Value} {f : Fra} {cd vl : Int} {u v : Value}
theorem LB.inn (h : LB w b ty (u :: post) f cd vl) : w.cell? ⟨b, 3, none⟩ = some u := by
  rw [h.blk.at_]
  rfl
theorem LB.putv (h : LB w b ty (u :: post) f cd vl) (v : Value) : LB (w.setCell ⟨b, 3, none⟩ v) b ty (v :: post) f cd vl := by
  refine ⟨?_, h.t1, h.t2, h.t3, h.t4⟩
  have hb := h.blk.put 3 v
  simp only [List.cons_append, List.nil_append, List.setIfInBounds_toArray, List.set_cons_zero, List.set_cons_succ] at hb
  exact hb
end
/-- What Run gives where the machine goes on: its block is q. -/
def RunOn (w : World) (p m k g cap : Nat) (s' : St) (t d : Int) (hd : List Value) (rv ev : Value) (b : Nat) (ty : TypeId) (post : List Value) (f : Fra) (ik : TypeId) (I : World → Nat → Prop) (S : List Nat) (q0 : Option Nat) (e : Ending) (w' : World) : Prop :=
  ∃ q : Nat, e = .returned (.tuple #[.int .i64 0, .int .i64 0, .bool false]) ∧ PE w' p m k g cap s' t d hd rv ev ∧ LB w' b ty (.iface ik (.pointer (some ⟨q, 0, none⟩)) :: post) f 0 0 ∧ I w' q ∧ Fr S w w' ∧ (q0 = some q ∨ q0 = none ∧ w.heap.size ≤ q)
/-- What Run gives where it is done. -/
def RunEnd (w : World) (p m k g cap : Nat) (s' : St) (t d : Int) (hd : List Value) (rv ev : Value) (b : Nat) (ty : TypeId) (post : List Value) (f : Fra) (cd vl : Int) (S : List Nat) (e : Ending) (w' : World) : Prop :=
  e = .returned (.tuple #[.int .i64 cd, .int .i64 vl, .bool true]) ∧ PE w' p m k g cap s' t d hd rv ev ∧ LB w' b ty (.nilIface :: post) f 0 0 ∧ Fr S w w'
section
variable {w w' : World} {p m k g cap : Nat} {s : St} {t d : Int} {hd : List Value} {rv ev : Value} {b : Nat} {ty : TypeId} {post : List Value} {f x : Fra}
end
end Go.Proofs.Ytgipddeldddbnaa

namespace Go.Proofs.Ytgipddeldddbnaa
open Go Go.RowKit Go.Shelf
set_option linter.unusedSimpArgs false
set_option linter.unusedVariables false

theorem fr_cell {w w' : World} {S : List Nat} (h : Fr S w w') {x : Nat} (hx : x < w.heap.size) (hn : x ∉ S) (o : Nat) : w'.cell? ⟨x, o, none⟩ = w.cell? ⟨x, o, none⟩ := by
  have e := h.block x hx hn
  unfold World.cell?
  rw [e]
/-- A step behind which an inner machine is at work: its block is q. -/
def VOn (w : World) (p m k g cap : Nat) (s' : St) (t d : Int) (hd : List Value) (rv ev : Value) (b : Nat) (ty : TypeId) (post : List Value) (f : Fra) (ik : TypeId) (I : World → Nat → Prop) (S : List Nat) (q0 : Option Nat) (e : Ending) (w' : World) : Prop :=
  ∃ q : Nat, e = .returned (.bool false) ∧ PE w' p m k g cap s' t d hd rv ev ∧ LB w' b ty (.iface ik (.pointer (some ⟨q, 0, none⟩)) :: post) f 0 0 ∧ I w' q ∧ Fr S w w' ∧ (q0 = some q ∨ q0 = none ∧ w.heap.size ≤ q)
/-- .. none is. -/
def VNo (w : World) (p m k g cap : Nat) (s' : St) (t d : Int) (hd : List Value) (rv ev : Value) (b : Nat) (ty : TypeId) (post : List Value) (f : Fra) (r : Res) (S : List Nat) (e : Ending) (w' : World) : Prop :=
  e = .returned (.bool r.dn) ∧ PE w' p m k g cap s' t d hd rv ev ∧ LB w' b ty (.nilIface :: post) (if r.dn then { f with ln := 0 } else f) r.cd r.vl ∧ Fr S w w'
section
variable {w w' : World} {p m k g cap : Nat} {s : St} {t d : Int} {hd : List Value} {rv ev : Value} {c : Cfg} {b : Nat} {f x : Fra}
end
end Go.Proofs.Ytgipddeldddbnaa
