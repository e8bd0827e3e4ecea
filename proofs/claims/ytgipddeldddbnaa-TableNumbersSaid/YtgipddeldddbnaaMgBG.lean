/-
  Pure: a step of a machine of levels keeps words what they are. No function is named.
  workstealmatch.Alone of the machines of levels. (Written by wip/gen_lvl.py.)
-/
import Derived.Test.YtgipddeldddbnaaMgBB
import Derived.Test.YtgipddeldddbnaaMgBD
import Derived.LoopTactic
import Derived.OwnWalk
namespace Go.Proofs.Ytgipddeldddbnaa
open Go Go.RowKit
set_option linter.unusedSimpArgs false

theorem lvK_U : KeepsU lvK := by
  intro s f hs hf
  unfold lvK
  split
  · exact push_U s f hs hf
  split
  · exact pop_U s f hs hf
  split
  · exact set_U s f hs hf
  · exact clear_U s f hs hf
/-- Every word of a machine is one. -/
def XU (x : Fra × Option Fra) : Prop := x.1.U ∧ ∀ y, x.2 = some y → y.U
theorem lvChild_U (c : Cfg) (f : Fra) : (lvChild c f).U := by
  unfold lvChild
  split
  · split <;> exact ⟨uw_zero, uw_zero, uw_zero, uw_zero⟩
  · split <;> exact ⟨uw_zero, uw_zero, uw_zero, uw_zero⟩
theorem lvBack_U (f : Fra) (cd vl : Int) (h : f.U) : (lvBack f cd vl).1.U := by
  unfold lvBack
  split
  · split <;> exact h
  split
  · exact h
  split <;> exact h
theorem lvS_U {c : Cfg} {s : St} {x : Fra × Option Fra} (hs : s.U) (hx : XU x) : (lvS c s x).1.U ∧ XU (lvS c s x).2.1 := by
  obtain ⟨f, o⟩ := x
  obtain ⟨hf, ho⟩ := hx
  have hy : (o.getD (lvChild c f)).U := by
    cases o with
    | none => exact lvChild_U c f
    | some y => exact ho y rfl
  have hk := lvK_U s _ hs hy
  unfold lvS
  split
  · split
    · exact ⟨go_U hs _ _ _ (fun x hx => hx), ⟨hs _, hf.2⟩, fun y hy => by cases hy⟩
    · exact ⟨go_U hs _ _ _ (fun x hx => hx), ⟨hs _, hf.2⟩, fun y hy => by cases hy⟩
  · split
    · exact ⟨hk.1, lvBack_U _ _ _ hf, fun y hy => by cases hy⟩
    · exact ⟨hk.1, hf, fun y hy => by cases hy; exact hk.2⟩
/-- The result of a step that is not the last one. -/
theorem lvS_none {c : Cfg} {s : St} {x : Fra × Option Fra} (h : (lvS c s x).2.2.dn = false) : (lvS c s x).2.2 = .none := by
  revert h
  unfold lvS
  split
  · split
    · intro h; cases h
    · intro _; rfl
  · split
    · unfold lvBack
      split
      · split
        · intro h; cases h
        · intro _; rfl
      split
      · intro _; rfl
      split
      · intro h; cases h
      · intro _; rfl
    · intro _; rfl
end Go.Proofs.Ytgipddeldddbnaa

namespace Go.Proofs.Ytgipddeldddbnaa
open Go Go.RowKit Go.Shelf
set_option linter.unusedSimpArgs false
set_option linter.unusedVariables false

/-- What Alone gives. -/
def AlonedV (w : World) (p m k g cap : Nat) (s' : St) (t d : Int) (hd : List Value) (rv ev : Value) (b : Nat) (r : Res) (N : Nat) (e : Ending) (w' : World) : Prop :=
  e = .returned (.tuple #[.int .i64 r.cd, .int .i64 r.vl, .int .i64 N]) ∧ PE w' p m k g cap s' t d hd rv ev ∧ Fr [m, g, b] w w'
/-- What its loop keeps. -/
def AloVR (V : World → Nat → Fra × Option Fra → Option Nat → Prop) (c : Cfg) (w : World) (p m k g cap : Nat) (s' : St) (t d : Int) (hd : List Value) (rv ev : Value) (b : Nat) (r : Res) (N : Nat) (v : Value) (wr : World) : Prop :=
  ∃ (j : Nat) (s : St) (x : Fra × Option Fra) (i : Option Nat) (M : Nat), v = .int .i64 j ∧ PE wr p m k g cap s t d hd rv ev ∧ V wr b x i ∧ s.U ∧ XU x ∧ RunM (lvS c) s x s' r M ∧ M + j = N ∧ (∀ q, i = some q → w.heap.size ≤ q) ∧ Fr [m, g, b] w wr
theorem AloVR.fr {w wr w' : World} {m g b : Nat} {i : Option Nat} (hf : Fr [m, g, b] w wr) (hi : ∀ q, i = some q → w.heap.size ≤ q) (h : Fr (m :: g :: b :: i.toList) wr w') : Fr [m, g, b] w w' := by
  refine Fr.drop hf h (fun y hy => ?_)
  simp only [List.mem_cons, Option.mem_toList] at hy
  rcases hy with rfl | rfl | rfl | hy
  · exact .inl (by simp)
  · exact .inl (by simp)
  · exact .inl (by simp)
  · exact .inr (hi y hy)
end Go.Proofs.Ytgipddeldddbnaa
