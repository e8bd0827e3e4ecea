/-
  Package levels: a step of its machines. (Written by wip/gen_lvu.py.)
  Package levels: Push and Pop, and the methods of their machines. (Written by wip/gen_lvl.py.)
  Pure: a step of a machine of levels keeps words what they are. No function is named.
  workstealmatch.Alone of the machines of levels. (Written by wip/gen_lvl.py.)
-/
import Derived.Test.YtclbkmhlgopcaaaMgAW
import Derived.Test.YtclbkmhlgopcaaaOwM
import Derived.Test.YtclbkmhlgopcaaaBmw
import Derived.LoopTactic
import Derived.OwnWalk
namespace Go.Proofs.Ytclbkmhlgopcaaa
open Go Go.RowKit Go.Shelf
set_option linter.unusedSimpArgs false
set_option linter.unusedVariables false

/-- What a step gives. -/
def VStep (w : World) (p m k g cap : Nat) (s' : St) (t d : Int) (hd : List Value) (rv ev : Value) (b : Nat) (ty : TypeId) (V : World → Nat → Fra × Option Fra → Option Nat → Prop) (x' : Fra × Option Fra) (r : Res) (i : Option Nat) (e : Ending) (w' : World) : Prop :=
  e = .returned (.bool r.dn) ∧ PE w' p m k g cap s' t d hd rv ev ∧ (r.dn = true → ∃ post f', LB w' b ty post f' r.cd r.vl ∧ f'.ln = 0) ∧
    (r.dn = false → ∃ i', V w' b x' i' ∧ (i' = i ∨ ∀ q, i' = some q → w.heap.size ≤ q)) ∧ Fr (m :: g :: b :: i.toList) w w'

section
variable {w w' : World} {p m k g cap : Nat} {s : St} {t d : Int} {hd : List Value} {rv ev : Value} {c : Cfg} {b : Nat} {f : Fra} {o : Option Fra} {i : Option Nat}
theorem cap_small (hin : CfgIn c) (a l : Int) : (rQueue c a l).2.2.2 ≤ 9223372036854775807 := by
  unfold rQueue
  split
  · have := hin.de.2
    show c.de ≤ _
    omega
  · show (0 : Int) ≤ _
    omega
end
end Go.Proofs.Ytclbkmhlgopcaaa

namespace Go.Proofs.Ytclbkmhlgopcaaa
open Go Go.RowKit Go.Shelf
set_option linter.unusedSimpArgs false

abbrev ocellz : Array Value := #[.int .i64 1, .int .i64 0, .int .i64 0, .nilIface]
abbrev ocell0 : Array Value := #[.int .i64 0, .int .i64 0, .int .i64 0, .nilIface]
/-- What Push and Pop give: a machine at its first line. -/
def VNew (V : World → Nat → Fra × Option Fra → Option Nat → Prop) (ty : TypeId) (f : Fra) (w : World) (e : Ending) (w' : World) : Prop :=
  ∃ b : Nat, e = .returned (.iface ty (.pointer (some ⟨b, 0, none⟩))) ∧ V w' b (f, none) none ∧ w.heap.size ≤ b ∧ Below w.heap.size w w'
abbrev fraLP (a l v : Int) : Fra := ⟨5, 1, 0, 0, 0, 0, a, l, v, 0, 0, 0, 0, 0, 0, 0, 0, .slice none 0 0⟩
abbrev fraLQ (a : Int) : Fra := ⟨6, 1, 0, 0, 0, 0, a, 0, 0, 0, 0, 0, 0, 0, 0, 0, 0, .slice none 0 0⟩
end Go.Proofs.Ytclbkmhlgopcaaa

namespace Go.Proofs.Ytclbkmhlgopcaaa
open Go Go.RowKit
set_option linter.unusedSimpArgs false

theorem lvK_U : KeepsU lvK := by
  intro s f hs hf
  unfold lvK
  split
  · exact push_U s f hs hf
  split
  · exact pop_U s f hs hf
  split
  · exact set_U s f hs hf
  · exact clear_U s f hs hf
/-- Every word of a machine is one. -/
def XU (x : Fra × Option Fra) : Prop := x.1.U ∧ ∀ y, x.2 = some y → y.U
theorem lvChild_U (c : Cfg) (f : Fra) : (lvChild c f).U := by
  unfold lvChild
  split
  · split <;> exact ⟨uw_zero, uw_zero, uw_zero, uw_zero⟩
  · split <;> exact ⟨uw_zero, uw_zero, uw_zero, uw_zero⟩
theorem lvBack_U (f : Fra) (cd vl : Int) (h : f.U) : (lvBack f cd vl).1.U := by
  unfold lvBack
  split
  · split <;> exact h
  split
  · exact h
  split <;> exact h
theorem lvS_U {c : Cfg} {s : St} {x : Fra × Option Fra} (hs : s.U) (hx : XU x) : (lvS c s x).1.U ∧ XU (lvS c s x).2.1 := by
  obtain ⟨f, o⟩ := x
  obtain ⟨hf, ho⟩ := hx
  have hy : (o.getD (lvChild c f)).U := by
    cases o with
    | none => exact lvChild_U c f
    | some y => exact ho y rfl
  have hk := lvK_U s _ hs hy
  unfold lvS
  split
  · split
    · exact ⟨go_U hs _ _ _ (fun x hx => hx), ⟨hs _, hf.2⟩, fun y hy => by cases hy⟩
    · exact ⟨go_U hs _ _ _ (fun x hx => hx), ⟨hs _, hf.2⟩, fun y hy => by cases hy⟩
  · split
    · exact ⟨hk.1, lvBack_U _ _ _ hf, fun y hy => by cases hy⟩
    · exact ⟨hk.1, hf, fun y hy => by cases hy; exact hk.2⟩
/-- The result of a step that is not the last one. -/
theorem lvS_none {c : Cfg} {s : St} {x : Fra × Option Fra} (h : (lvS c s x).2.2.dn = false) : (lvS c s x).2.2 = .none := by
  revert h
  unfold lvS
  split
  · split
    · intro h; cases h
    · intro _; rfl
  · split
    · unfold lvBack
      split
      · split
        · intro h; cases h
        · intro _; rfl
      split
      · intro _; rfl
      split
      · intro h; cases h
      · intro _; rfl
    · intro _; rfl
end Go.Proofs.Ytclbkmhlgopcaaa

namespace Go.Proofs.Ytclbkmhlgopcaaa
open Go Go.RowKit Go.Shelf
set_option linter.unusedSimpArgs false
set_option linter.unusedVariables false

/-- What Alone gives. -/
def AlonedV (w : World) (p m k g cap : Nat) (s' : St) (t d : Int) (hd : List Value) (rv ev : Value) (b : Nat) (r : Res) (N : Nat) (e : Ending) (w' : World) : Prop :=
  e = .returned (.tuple #[.int .i64 r.cd, .int .i64 r.vl, .int .i64 N]) ∧ PE w' p m k g cap s' t d hd rv ev ∧ Fr [m, g, b] w w'
/-- What its loop keeps. -/
def AloVR (V : World → Nat → Fra × Option Fra → Option Nat → Prop) (c : Cfg) (w : World) (p m k g cap : Nat) (s' : St) (t d : Int) (hd : List Value) (rv ev : Value) (b : Nat) (r : Res) (N : Nat) (v : Value) (wr : World) : Prop :=
  ∃ (j : Nat) (s : St) (x : Fra × Option Fra) (i : Option Nat) (M : Nat), v = .int .i64 j ∧ PE wr p m k g cap s t d hd rv ev ∧ V wr b x i ∧ s.U ∧ XU x ∧ RunM (lvS c) s x s' r M ∧ M + j = N ∧ (∀ q, i = some q → w.heap.size ≤ q) ∧ Fr [m, g, b] w wr
theorem AloVR.fr {w wr w' : World} {m g b : Nat} {i : Option Nat} (hf : Fr [m, g, b] w wr) (hi : ∀ q, i = some q → w.heap.size ≤ q) (h : Fr (m :: g :: b :: i.toList) wr w') : Fr [m, g, b] w w' := by
  refine Fr.drop hf h (fun y hy => ?_)
  simp only [List.mem_cons, Option.mem_toList] at hy
  rcases hy with rfl | rfl | rfl | hy
  · exact .inl (by simp)
  · exact .inl (by simp)
  · exact .inl (by simp)
  · exact .inr (hi y hy)
end Go.Proofs.Ytclbkmhlgopcaaa
