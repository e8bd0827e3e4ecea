/-
  Plain mathematics: the steps of a machine until it is done. No function is named.
  workstealmatch.Alone of the machines of the owner. (Written by wip/gen_alone.py.)
  workstealmatch.Alone of the machines of package lock, where their first step ends it. (Written by wip/gen_lk.py.)
-/
import Derived.Test.YtclbkmhlgopcaaaStN
import Derived.Test.YtclbkmhlgopcaaaMgAQ
import Derived.LoopTactic
import Derived.OwnWalk
namespace Go.Proofs.Ytclbkmhlgopcaaa
open Go Go.RowKit
set_option linter.unusedSimpArgs false

/-- A machine's steps until it is done: the state, the result, how many there are. -/
def runS (stp : St → Fra → St × Fra × Res) : Nat → St → Fra → Option (St × Res × Nat)
  | 0, _, _ => none
  | n + 1, s, f => if (stp s f).2.2.dn = true then some ((stp s f).1, (stp s f).2.2, 1) else (runS stp n (stp s f).1 (stp s f).2.1).map fun x => (x.1, x.2.1, x.2.2 + 1)
theorem runS_end {stp : St → Fra → St × Fra × Res} {n N : Nat} {s s' : St} {f : Fra} {r : Res} (h : runS stp (n + 1) s f = some (s', r, N)) (hd : (stp s f).2.2.dn = true) : (stp s f).1 = s' ∧ (stp s f).2.2 = r ∧ N = 1 := by
  unfold runS at h
  rw [if_pos hd] at h
  simp only [Option.some.injEq, Prod.mk.injEq] at h
  exact ⟨h.1, h.2.1, h.2.2.symm⟩
theorem runS_on {stp : St → Fra → St × Fra × Res} {n N : Nat} {s s' : St} {f : Fra} {r : Res} (h : runS stp (n + 1) s f = some (s', r, N)) (hd : (stp s f).2.2.dn = false) : ∃ M, runS stp n (stp s f).1 (stp s f).2.1 = some (s', r, M) ∧ N = M + 1 := by
  unfold runS at h
  rw [if_neg (by rw [hd]; decide)] at h
  cases h2 : runS stp n (stp s f).1 (stp s f).2.1 with
  | none => rw [h2] at h; simp at h
  | some x =>
    rw [h2] at h
    obtain ⟨a, b, c⟩ := x
    simp only [Option.map_some, Option.some.injEq, Prod.mk.injEq] at h
    obtain ⟨rfl, rfl, rfl⟩ := h
    exact ⟨c, rfl, rfl⟩
end Go.Proofs.Ytclbkmhlgopcaaa

namespace Go.Proofs.Ytclbkmhlgopcaaa
open Go Go.RowKit Go.Shelf
set_option linter.unusedSimpArgs false

/-- What Alone gives. -/
def Aloned (w : World) (p m k g cap : Nat) (s' : St) (t d : Int) (hd : List Value) (rv ev : Value) (q : Nat) (r : Res) (N : Nat) (e : Ending) (w' : World) : Prop :=
  e = .returned (.tuple #[.int .i64 r.cd, .int .i64 r.vl, .int .i64 N]) ∧ PE w' p m k g cap s' t d hd rv ev ∧ Fr [m, g, q] w w'

end Go.Proofs.Ytclbkmhlgopcaaa

namespace Go.Proofs.Ytclbkmhlgopcaaa
open Go Go.RowKit Go.Shelf
set_option linter.unusedSimpArgs false
set_option linter.unusedVariables false


set_option maxRecDepth 100000 in
set_option maxHeartbeats 4000000 in
theorem alone_acquirer {w : World} {p m k g cap : Nat} {s : St} {t d : Int} {hd : List Value} {rv ev : Value} {q : Nat} {f : Fra} {c : Cfg} {most : Int} (hp : PE w p m k g cap s t d hd rv ev) (hlay : LayHd hd c) (h : LB w q 76 [.int .i64 f.fa] f 0 0) (hl : f.ln = 1) (hd1 : (acqS s f).2.2.dn = true) (hm : 0 < most) :
    Calls Try.prog 13 #[.pointer (some ⟨p, 0, none⟩), .iface 72 (.pointer (some ⟨q, 0, none⟩)), .int .i64 most] w (Aloned w p m k g cap (acqS s f).1 t d hd rv ev q (acqS s f).2.2 1) := by
  have HS := Lib.hid (acquirer_any hp hlay h hl)
  have HD := Lib.hid hd1
  clear hp hlay h hl hd1
  generalize acqS s f = y at *
  have km := meth_step_acquirer q
  have ka := ahead_step_acquirer q
  have kr := meth_result_acquirer q
  have kb := ahead_result_acquirer q
  go_enter Try.func13, Try.ntmps13
  go_wp2_with fail
  go_loopw [8] (fun i wr => i = .int .i64 0 ∧ wr = w) (fun _ _ => 0)
  case atStart => exact ⟨rfl, rfl⟩
  case round =>
    obtain ⟨rfl, rfl⟩ := hrel
    go_wp2_with fail
    (with_reducible refine HS.out.mono ?_)
    rintro e w1 ⟨rfl, hp1, hb1, hf1⟩
    rw [HD.out, if_pos rfl] at hb1
    have B1 := Lib.hid hb1
    have P1 := Lib.hid hp1
    have F1 := Lib.hid hf1
    clear hb1 hp1 hf1
    rw [HD.out]
    go_wp2_with fail
    (with_reducible refine (lresult_any B1.out).mono ?_)
    rintro e w2 ⟨rfl, nd, rfl⟩
    go_wp2_with fail
    go_ret3
    exact ⟨rfl, P1.out.drewN nd, F1.out.drewN nd⟩

set_option maxRecDepth 100000 in
set_option maxHeartbeats 4000000 in
theorem alone_trier {w : World} {p m k g cap : Nat} {s : St} {t d : Int} {hd : List Value} {rv ev : Value} {q : Nat} {f : Fra} {c : Cfg} {most : Int} (hp : PE w p m k g cap s t d hd rv ev) (hlay : LayHd hd c) (h : LB w q 78 [.int .i64 f.fa] f 0 0) (hl : f.ln = 1) (hd1 : (tryS s f).2.2.dn = true) (hm : 0 < most) :
    Calls Try.prog 13 #[.pointer (some ⟨p, 0, none⟩), .iface 77 (.pointer (some ⟨q, 0, none⟩)), .int .i64 most] w (Aloned w p m k g cap (tryS s f).1 t d hd rv ev q (tryS s f).2.2 1) := by
  have HS := Lib.hid (trier_any hp hlay h hl)
  have HD := Lib.hid hd1
  clear hp hlay h hl hd1
  generalize tryS s f = y at *
  have km := meth_step_trier q
  have ka := ahead_step_trier q
  have kr := meth_result_trier q
  have kb := ahead_result_trier q
  go_enter Try.func13, Try.ntmps13
  go_wp2_with fail
  go_loopw [8] (fun i wr => i = .int .i64 0 ∧ wr = w) (fun _ _ => 0)
  case atStart => exact ⟨rfl, rfl⟩
  case round =>
    obtain ⟨rfl, rfl⟩ := hrel
    go_wp2_with fail
    (with_reducible refine HS.out.mono ?_)
    rintro e w1 ⟨rfl, hp1, hb1, hf1⟩
    rw [HD.out, if_pos rfl] at hb1
    have B1 := Lib.hid hb1
    have P1 := Lib.hid hp1
    have F1 := Lib.hid hf1
    clear hb1 hp1 hf1
    rw [HD.out]
    go_wp2_with fail
    (with_reducible refine (lresult_any B1.out).mono ?_)
    rintro e w2 ⟨rfl, nd, rfl⟩
    go_wp2_with fail
    go_ret3
    exact ⟨rfl, P1.out.drewN nd, F1.out.drewN nd⟩

set_option maxRecDepth 100000 in
set_option maxHeartbeats 4000000 in
theorem alone_releaser {w : World} {p m k g cap : Nat} {s : St} {t d : Int} {hd : List Value} {rv ev : Value} {q : Nat} {f : Fra} {c : Cfg} {most : Int} (hp : PE w p m k g cap s t d hd rv ev) (hlay : LayHd hd c) (h : LB w q 71 [] f 0 0) (hl : f.ln = 1) (hd1 : (relS s f).2.2.dn = true) (hm : 0 < most) :
    Calls Try.prog 13 #[.pointer (some ⟨p, 0, none⟩), .iface 66 (.pointer (some ⟨q, 0, none⟩)), .int .i64 most] w (Aloned w p m k g cap (relS s f).1 t d hd rv ev q (relS s f).2.2 1) := by
  have HS := Lib.hid (releaser_any hp hlay h hl)
  have HD := Lib.hid hd1
  clear hp hlay h hl hd1
  generalize relS s f = y at *
  have km := meth_step_releaser q
  have ka := ahead_step_releaser q
  have kr := meth_result_releaser q
  have kb := ahead_result_releaser q
  go_enter Try.func13, Try.ntmps13
  go_wp2_with fail
  go_loopw [8] (fun i wr => i = .int .i64 0 ∧ wr = w) (fun _ _ => 0)
  case atStart => exact ⟨rfl, rfl⟩
  case round =>
    obtain ⟨rfl, rfl⟩ := hrel
    go_wp2_with fail
    (with_reducible refine HS.out.mono ?_)
    rintro e w1 ⟨rfl, hp1, hb1, hf1⟩
    rw [HD.out, if_pos rfl] at hb1
    have B1 := Lib.hid hb1
    have P1 := Lib.hid hp1
    have F1 := Lib.hid hf1
    clear hb1 hp1 hf1
    rw [HD.out]
    go_wp2_with fail
    (with_reducible refine (lresult_any B1.out).mono ?_)
    rintro e w2 ⟨rfl, nd, rfl⟩
    go_wp2_with fail
    go_ret3
    exact ⟨rfl, P1.out.drewN nd, F1.out.drewN nd⟩

end Go.Proofs.Ytclbkmhlgopcaaa
