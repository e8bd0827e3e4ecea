/-
  Plain mathematics: every word of a memory and of a frame is one of 64 bits, and the lines of push, pop, steal, set and clear keep that. No function is named.
  Package parts: Run of a machine that runs another one, for each that levels run. (Written by wip/gen_lvr.py.)
  Package levels: the steps of its machines, case by case. (Written by wip/gen_lvs.py.)
-/
import Derived.Test.YtclbkmhlgopcaaaMgAT
import Derived.Test.YtclbkmhlgopcaaaMgAQ
import Derived.Shelf.Abstract
namespace Go.Proofs.Ytclbkmhlgopcaaa
open Go Go.RowKit
set_option linter.unusedSimpArgs false

/-- A word. -/
def uw (x : Int) : Prop := 0 ≤ x ∧ x < 18446744073709551616
theorem uw_wrap (x : Int) : uw (IntKind.u64.wrap x) := by
  rw [IntKind.wrap_u64]
  exact ⟨Int.emod_nonneg _ (by decide), Int.emod_lt_of_pos _ (by decide)⟩
theorem uw_zero : uw 0 := ⟨by decide, by decide⟩
/-- Every word of the memory is one. -/
def St.U (s : St) : Prop := ∀ i, uw (s.old i)
theorem St.U.n {s : St} (h : s.U) : s.N := fun i => (h i).1
theorem go_U {s : St} (h : s.U) (k i : Int) (F : Int → Int) (hF : ∀ x, uw x → uw (F x)) : (s.go k i F).U := by
  intro j
  by_cases hj : i = j
  · subst hj
    by_cases hi : s.has i
    · rw [go_old s k i F hi]
      exact hF _ (h i)
    · unfold St.go
      rw [if_neg hi]
      exact h i
  · rw [go_other s k i j F hj]
    exact h j
theorem U_of {s : St} (h : ∀ j, j < s.X.length → uw (s.X.getD j 0)) : s.U := by
  intro i
  unfold St.old
  split
  · rename_i hi
    have := hi.1
    have := hi.2
    exact h i.toNat (by omega)
  · exact uw_zero
/-- Every word of a frame is one. -/
def Fra.U (f : Fra) : Prop := uw f.fu ∧ uw f.fv ∧ uw f.fw ∧ uw f.fx
theorem fra1_U (kd t b r k a : Int) : (fra1 kd t b r k a).U := ⟨uw_zero, uw_zero, uw_zero, uw_zero⟩
/-- What a line keeps. -/
def KeepsU (stp : St → Fra → St × Fra × Res) : Prop := ∀ (s : St) (f : Fra), s.U → f.U → (stp s f).1.U ∧ (stp s f).2.1.U
theorem push_U : KeepsU pushS := by
  intro s f hs hf
  obtain ⟨hu, hv, hw, hx⟩ := hf
  unfold pushS
  split
  · exact ⟨go_U hs _ _ _ (fun x hx => hx), hs _, hv, hw, hx⟩
  split
  · split <;> exact ⟨go_U hs _ _ _ (fun x hx => hx), hu, hs _, hw, hx⟩
  split
  · exact ⟨go_U hs _ _ _ (fun x _ => uw_wrap _), hu, hv, hw, hx⟩
  · exact ⟨go_U hs _ _ _ (fun x _ => uw_wrap _), hu, hv, hw, hx⟩
theorem pop_U : KeepsU popS := by
  intro s f hs hf
  obtain ⟨hu, hv, hw, hx⟩ := hf
  unfold popS
  split
  · exact ⟨go_U hs _ _ _ (fun x hx => hx), hs _, hv, hw, hx⟩
  split
  · split <;> exact ⟨go_U hs _ _ _ (fun x hx => hx), hu, hs _, hw, hx⟩
  split
  · exact ⟨go_U hs _ _ _ (fun x _ => uw_wrap _), hu, hv, hw, hx⟩
  split
  · exact ⟨go_U hs _ _ _ (fun x hx => hx), hu, hs _, hw, hx⟩
  split
  · exact ⟨go_U hs _ _ _ (fun x hx => hx), hu, hv, hw, hx⟩
  split
  · refine ⟨go_U hs 3 f.qt (fun x => if x = f.fv then add1 f.fv else x) (fun x hx => ?_), hu, hv, hw, hx⟩
    show uw (if x = f.fv then add1 f.fv else x)
    split
    · exact uw_wrap _
    · exact hx
  split
  · exact ⟨go_U hs _ _ _ (fun x _ => hu), hu, hv, hw, hx⟩
  · exact ⟨go_U hs _ _ _ (fun x _ => hu), hu, hv, hw, hx⟩
theorem steal_U : KeepsU stealS := by
  intro s f hs hf
  obtain ⟨hu, hv, hw, hx⟩ := hf
  unfold stealS
  split
  · exact ⟨go_U hs _ _ _ (fun x hx => hx), hu, hs _, hw, hx⟩
  split
  · split <;> exact ⟨go_U hs _ _ _ (fun x hx => hx), hs _, hv, hw, hx⟩
  split
  · exact ⟨go_U hs _ _ _ (fun x hx => hx), hu, hv, hs _, hx⟩
  · refine ⟨go_U hs 3 f.qt (fun x => if x = f.fv then add1 f.fv else x) (fun x hx => ?_), hu, hv, hw, hx⟩
    show uw (if x = f.fv then add1 f.fv else x)
    split
    · exact uw_wrap _
    · exact hx
theorem set_U : KeepsU setS := by
  intro s f hs hf
  exact ⟨go_U hs _ _ _ (fun x _ => uw_wrap _), hf⟩
theorem clear_U : KeepsU clearS := by
  intro s f hs hf
  obtain ⟨hu, hv, hw, hx⟩ := hf
  unfold clearS
  split
  · exact ⟨go_U hs _ _ _ (fun x _ => uw_wrap _), hu, hv, hw, hx⟩
  split
  · exact ⟨go_U hs _ _ _ (fun x hx => hx), hs _, hv, hw, hx⟩
  split
  · split <;> exact ⟨go_U hs _ _ _ (fun x hx => hx), hu, hs _, hw, hx⟩
  · exact ⟨go_U hs _ _ _ (fun x _ => uw_wrap _), hu, hv, hw, hx⟩
end Go.Proofs.Ytclbkmhlgopcaaa

namespace Go.Proofs.Ytclbkmhlgopcaaa
open Go Go.RowKit Go.Shelf
set_option linter.unusedSimpArgs false

section
variable {w w' : World} {b : Nat} {ty : TypeId} {post : List Value} {f : Fra} {cd vl : Int} {u v : Value}
theorem LB.inn (h : LB w b ty (u :: post) f cd vl) : w.cell? ⟨b, 3, none⟩ = some u := by
  rw [h.blk.at_]
  rfl
theorem LB.putv (h : LB w b ty (u :: post) f cd vl) (v : Value) : LB (w.setCell ⟨b, 3, none⟩ v) b ty (v :: post) f cd vl := by
  refine ⟨?_, h.t1, h.t2, h.t3, h.t4⟩
  have hb := h.blk.put 3 v
  simp only [List.cons_append, List.nil_append, List.setIfInBounds_toArray, List.set_cons_zero, List.set_cons_succ] at hb
  exact hb
end
/-- What Run gives where the machine goes on: its block is q. -/
def RunOn (w : World) (p m k g cap : Nat) (s' : St) (t d : Int) (hd : List Value) (rv ev : Value) (b : Nat) (ty : TypeId) (post : List Value) (f : Fra) (ik : TypeId) (I : World → Nat → Prop) (S : List Nat) (q0 : Option Nat) (e : Ending) (w' : World) : Prop :=
  ∃ q : Nat, e = .returned (.tuple #[.int .i64 0, .int .i64 0, .bool false]) ∧ PE w' p m k g cap s' t d hd rv ev ∧ LB w' b ty (.iface ik (.pointer (some ⟨q, 0, none⟩)) :: post) f 0 0 ∧ I w' q ∧ Fr S w w' ∧ (q0 = some q ∨ q0 = none ∧ w.heap.size ≤ q)
/-- What Run gives where it is done. -/
def RunEnd (w : World) (p m k g cap : Nat) (s' : St) (t d : Int) (hd : List Value) (rv ev : Value) (b : Nat) (ty : TypeId) (post : List Value) (f : Fra) (cd vl : Int) (S : List Nat) (e : Ending) (w' : World) : Prop :=
  e = .returned (.tuple #[.int .i64 cd, .int .i64 vl, .bool true]) ∧ PE w' p m k g cap s' t d hd rv ev ∧ LB w' b ty (.nilIface :: post) f 0 0 ∧ Fr S w w'
section
variable {w w' : World} {p m k g cap : Nat} {s : St} {t d : Int} {hd : List Value} {rv ev : Value} {b : Nat} {ty : TypeId} {post : List Value} {f x : Fra}
end
end Go.Proofs.Ytclbkmhlgopcaaa

namespace Go.Proofs.Ytclbkmhlgopcaaa
open Go Go.RowKit Go.Shelf
set_option linter.unusedSimpArgs false
set_option linter.unusedVariables false

theorem fr_cell {w w' : World} {S : List Nat} (h : Fr S w w') {x : Nat} (hx : x < w.heap.size) (hn : x ∉ S) (o : Nat) : w'.cell? ⟨x, o, none⟩ = w.cell? ⟨x, o, none⟩ := by
  have e := h.block x hx hn
  unfold World.cell?
  rw [e]
/-- A step behind which an inner machine is at work: its block is q. -/
def VOn (w : World) (p m k g cap : Nat) (s' : St) (t d : Int) (hd : List Value) (rv ev : Value) (b : Nat) (ty : TypeId) (post : List Value) (f : Fra) (ik : TypeId) (I : World → Nat → Prop) (S : List Nat) (q0 : Option Nat) (e : Ending) (w' : World) : Prop :=
  ∃ q : Nat, e = .returned (.bool false) ∧ PE w' p m k g cap s' t d hd rv ev ∧ LB w' b ty (.iface ik (.pointer (some ⟨q, 0, none⟩)) :: post) f 0 0 ∧ I w' q ∧ Fr S w w' ∧ (q0 = some q ∨ q0 = none ∧ w.heap.size ≤ q)
/-- .. none is. -/
def VNo (w : World) (p m k g cap : Nat) (s' : St) (t d : Int) (hd : List Value) (rv ev : Value) (b : Nat) (ty : TypeId) (post : List Value) (f : Fra) (r : Res) (S : List Nat) (e : Ending) (w' : World) : Prop :=
  e = .returned (.bool r.dn) ∧ PE w' p m k g cap s' t d hd rv ev ∧ LB w' b ty (.nilIface :: post) (if r.dn then { f with ln := 0 } else f) r.cd r.vl ∧ Fr S w w'
section
variable {w w' : World} {p m k g cap : Nat} {s : St} {t d : Int} {hd : List Value} {rv ev : Value} {c : Cfg} {b : Nat} {f x : Fra}
end
end Go.Proofs.Ytclbkmhlgopcaaa
