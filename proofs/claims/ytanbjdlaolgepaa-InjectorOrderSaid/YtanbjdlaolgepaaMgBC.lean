/-
  Plain mathematics of one bit of a word. No function is named.
  Package levels: a step of its machines. (Written by wip/gen_lvu.py.)
  Package levels: Push and Pop, and the methods of their machines. (Written by wip/gen_lvl.py.)
  Pure: a step of a machine of levels keeps words what they are. No function is named.
  workstealmatch.Alone of the machines of levels. (Written by wip/gen_lvl.py.)
-/
import Derived.Test.YtanbjdlaolgepaaMgAB
import Derived.Test.YtanbjdlaolgepaaMgAZ
import Derived.Test.YtanbjdlaolgepaaMgBA
import Derived.Test.YtanbjdlaolgepaaOwM
import Derived.LoopTactic
import Derived.OwnWalk
namespace Go.Proofs.Ytanbjdlaolgepaa
open Go Go.RowKit
set_option linter.unusedSimpArgs false

theorem maskS_nat (b : Nat) (hb : b < 64) : maskS (b : Int) = ((2 ^ b : Nat) : Int) := by
  unfold maskS
  rw [if_neg (by omega), Int.toNat_natCast]
theorem pow_lt64 (b : Nat) (hb : b < 64) : 2 ^ b < 18446744073709551616 := by
  have : (2 : Nat) ^ b ≤ 2 ^ 63 := Nat.pow_le_pow_right (by decide) (by omega)
  omega
theorem or_zero_mask (b : Nat) (hb : b < 64) : bits .or .u64 0 (maskS b) = maskS b := by
  rw [maskS_nat b hb]
  have := u64_or_nat 0 (2 ^ b) (by decide) (pow_lt64 b hb)
  rw [Nat.zero_or] at this
  exact this
theorem or_mask_mask (b : Nat) (hb : b < 64) : bits .or .u64 (maskS b) (maskS b) = maskS b := by
  rw [maskS_nat b hb]
  have := u64_or_nat (2 ^ b) (2 ^ b) (pow_lt64 b hb) (pow_lt64 b hb)
  rw [Nat.or_self] at this
  exact this
theorem and_not_self (y : Nat) (hy : y < 18446744073709551616) : y &&& (18446744073709551615 ^^^ y) = 0 := by
  apply Nat.eq_of_testBit_eq
  intro i
  have e1 : (18446744073709551615 : Nat) = 2 ^ 64 - 1 := by decide
  rw [Nat.testBit_and, Nat.testBit_xor, e1, Nat.testBit_two_pow_sub_one, Nat.zero_testBit]
  by_cases hi : i < 64
  · cases y.testBit i <;> simp [hi]
  · have hp : 18446744073709551616 ≤ 2 ^ i := Nat.pow_le_pow_right (n := 2) (by decide) (show 64 ≤ i by omega)
    have a := Nat.testBit_lt_two_pow (Nat.lt_of_lt_of_le hy hp)
    simp [a]
theorem notU_nat (y : Nat) (hy : y < 18446744073709551616) : notU (y : Int) = ((18446744073709551615 ^^^ y : Nat) : Int) := u64_xor_nat 18446744073709551615 y (by decide) hy
theorem not_lt64 (y : Nat) (hy : y < 18446744073709551616) : 18446744073709551615 ^^^ y < 18446744073709551616 := Nat.xor_lt_two_pow (n := 64) (by decide) hy
theorem and_zero_mask (b : Nat) (hb : b < 64) : bits .and .u64 0 (notU (maskS b)) = 0 := by
  rw [maskS_nat b hb, notU_nat _ (pow_lt64 b hb)]
  have := u64_and_nat 0 (18446744073709551615 ^^^ 2 ^ b) (by decide) (not_lt64 _ (pow_lt64 b hb))
  rw [Nat.zero_and] at this
  exact this
theorem and_mask_mask (b : Nat) (hb : b < 64) : bits .and .u64 (maskS b) (notU (maskS b)) = 0 := by
  rw [maskS_nat b hb, notU_nat _ (pow_lt64 b hb)]
  have := u64_and_nat (2 ^ b) (18446744073709551615 ^^^ 2 ^ b) (pow_lt64 b hb) (not_lt64 _ (pow_lt64 b hb))
  rw [and_not_self _ (pow_lt64 b hb)] at this
  exact this
theorem old_load (s : St) (i j : Int) : (s.go 1 i id).old j = s.old j := by
  by_cases e : i = j
  · subst e
    by_cases hi : s.has i
    · rw [go_old s 1 i id hi]; rfl
    · unfold St.go
      rw [if_neg hi]
  · exact go_other s 1 i j id e
section
variable {s : St}
theorem clearS_1 {f : Fra} (h : f.ln = 1) : clearS s f = (s.go 5 f.fa (fun x => bits .and .u64 x (notU (maskS f.fb))), { f with ln := 2 }, .none) := by
  rw [clearS, if_pos h]
theorem clearS_2 {f : Fra} (h : f.ln = 2) : clearS s f = (s.go 1 f.qb id, { f with fu := s.old f.qb, ln := 3 }, .none) := by
  rw [clearS, if_neg (by omega), if_pos h]
theorem clearS_3e {f : Fra} (h : f.ln = 3) (hc : sizeI f.fu (s.old f.qt) ≤ 0) : clearS s f = (s.go 1 f.qt id, { f with fv := s.old f.qt }, ⟨true, 2, 0⟩) := by
  rw [clearS, if_neg (by omega), if_neg (by omega), if_pos h, if_pos hc]
theorem clearS_3 {f : Fra} (h : f.ln = 3) (hc : ¬ sizeI f.fu (s.old f.qt) ≤ 0) : clearS s f = (s.go 1 f.qt id, { f with fv := s.old f.qt, ln := 4 }, .none) := by
  rw [clearS, if_neg (by omega), if_neg (by omega), if_pos h, if_neg hc]
theorem clearS_4 {f : Fra} (h : f.ln = 4) : clearS s f = (s.go 4 f.fa (fun x => bits .or .u64 x (maskS f.fb)), f, ⟨true, 1, 0⟩) := by
  rw [clearS, if_neg (by omega), if_neg (by omega), if_neg (by omega)]
end
end Go.Proofs.Ytanbjdlaolgepaa

namespace Go.Proofs.Ytanbjdlaolgepaa
open Go Go.RowKit Go.Shelf
set_option linter.unusedSimpArgs false
set_option linter.unusedVariables false

/-- What a step gives. -/
def VStep (w : World) (p m k g cap : Nat) (s' : St) (t d : Int) (hd : List Value) (rv ev : Value) (b : Nat) (ty : TypeId) (V : World → Nat → Fra × Option Fra → Option Nat → Prop) (x' : Fra × Option Fra) (r : Res) (i : Option Nat) (e : Ending) (w' : World) : Prop :=
  e = .returned (.bool r.dn) ∧ PE w' p m k g cap s' t d hd rv ev ∧ (r.dn = true → ∃ post f', LB w' b ty post f' r.cd r.vl ∧ f'.ln = 0) ∧
    (r.dn = false → ∃ i', V w' b x' i' ∧ (i' = i ∨ ∀ q, i' = some q → w.heap.size ≤ q)) ∧ Fr (m :: g :: b :: i.toList) w w'

section
variable {w w' : World} {p m k g cap : Nat} {s : St} {t d : Int} {hd : List Value} {rv ev : Value} {c : Cfg} {b : Nat} {f : Fra} {o : Option Fra} {i : Option Nat}
theorem cap_small (hin : CfgIn c) (a l : Int) : (rQueue c a l).2.2.2 ≤ 9223372036854775807 := by
  unfold rQueue
  split
  · have := hin.de.2
    show c.de ≤ _
    omega
  · show (0 : Int) ≤ _
    omega
end
end Go.Proofs.Ytanbjdlaolgepaa

namespace Go.Proofs.Ytanbjdlaolgepaa
open Go Go.RowKit Go.Shelf
set_option linter.unusedSimpArgs false

abbrev ocellz : Array Value := #[.int .i64 1, .int .i64 0, .int .i64 0, .nilIface]
abbrev ocell0 : Array Value := #[.int .i64 0, .int .i64 0, .int .i64 0, .nilIface]
/-- What Push and Pop give: a machine at its first line. -/
def VNew (V : World → Nat → Fra × Option Fra → Option Nat → Prop) (ty : TypeId) (f : Fra) (w : World) (e : Ending) (w' : World) : Prop :=
  ∃ b : Nat, e = .returned (.iface ty (.pointer (some ⟨b, 0, none⟩))) ∧ V w' b (f, none) none ∧ w.heap.size ≤ b ∧ Below w.heap.size w w'
abbrev fraLP (a l v : Int) : Fra := ⟨5, 1, 0, 0, 0, 0, a, l, v, 0, 0, 0, 0, 0, 0, 0, 0, .slice none 0 0⟩
abbrev fraLQ (a : Int) : Fra := ⟨6, 1, 0, 0, 0, 0, a, 0, 0, 0, 0, 0, 0, 0, 0, 0, 0, .slice none 0 0⟩
end Go.Proofs.Ytanbjdlaolgepaa

namespace Go.Proofs.Ytanbjdlaolgepaa
open Go Go.RowKit
set_option linter.unusedSimpArgs false

theorem lvK_U : KeepsU lvK := by
  intro s f hs hf
  unfold lvK
  split
  · exact push_U s f hs hf
  split
  · exact pop_U s f hs hf
  split
  · exact set_U s f hs hf
  · exact clear_U s f hs hf
/-- Every word of a machine is one. -/
def XU (x : Fra × Option Fra) : Prop := x.1.U ∧ ∀ y, x.2 = some y → y.U
theorem lvChild_U (c : Cfg) (f : Fra) : (lvChild c f).U := by
  unfold lvChild
  split
  · split <;> exact ⟨uw_zero, uw_zero, uw_zero, uw_zero⟩
  · split <;> exact ⟨uw_zero, uw_zero, uw_zero, uw_zero⟩
theorem lvBack_U (f : Fra) (cd vl : Int) (h : f.U) : (lvBack f cd vl).1.U := by
  unfold lvBack
  split
  · split <;> exact h
  split
  · exact h
  split <;> exact h
theorem lvS_U {c : Cfg} {s : St} {x : Fra × Option Fra} (hs : s.U) (hx : XU x) : (lvS c s x).1.U ∧ XU (lvS c s x).2.1 := by
  obtain ⟨f, o⟩ := x
  obtain ⟨hf, ho⟩ := hx
  have hy : (o.getD (lvChild c f)).U := by
    cases o with
    | none => exact lvChild_U c f
    | some y => exact ho y rfl
  have hk := lvK_U s _ hs hy
  unfold lvS
  split
  · split
    · exact ⟨go_U hs _ _ _ (fun x hx => hx), ⟨hs _, hf.2⟩, fun y hy => by cases hy⟩
    · exact ⟨go_U hs _ _ _ (fun x hx => hx), ⟨hs _, hf.2⟩, fun y hy => by cases hy⟩
  · split
    · exact ⟨hk.1, lvBack_U _ _ _ hf, fun y hy => by cases hy⟩
    · exact ⟨hk.1, hf, fun y hy => by cases hy; exact hk.2⟩
/-- The result of a step that is not the last one. -/
theorem lvS_none {c : Cfg} {s : St} {x : Fra × Option Fra} (h : (lvS c s x).2.2.dn = false) : (lvS c s x).2.2 = .none := by
  revert h
  unfold lvS
  split
  · split
    · intro h; cases h
    · intro _; rfl
  · split
    · unfold lvBack
      split
      · split
        · intro h; cases h
        · intro _; rfl
      split
      · intro _; rfl
      split
      · intro h; cases h
      · intro _; rfl
    · intro _; rfl
end Go.Proofs.Ytanbjdlaolgepaa

namespace Go.Proofs.Ytanbjdlaolgepaa
open Go Go.RowKit Go.Shelf
set_option linter.unusedSimpArgs false
set_option linter.unusedVariables false

/-- What Alone gives. -/
def AlonedV (w : World) (p m k g cap : Nat) (s' : St) (t d : Int) (hd : List Value) (rv ev : Value) (b : Nat) (r : Res) (N : Nat) (e : Ending) (w' : World) : Prop :=
  e = .returned (.tuple #[.int .i64 r.cd, .int .i64 r.vl, .int .i64 N]) ∧ PE w' p m k g cap s' t d hd rv ev ∧ Fr [m, g, b] w w'
/-- What its loop keeps. -/
def AloVR (V : World → Nat → Fra × Option Fra → Option Nat → Prop) (c : Cfg) (w : World) (p m k g cap : Nat) (s' : St) (t d : Int) (hd : List Value) (rv ev : Value) (b : Nat) (r : Res) (N : Nat) (v : Value) (wr : World) : Prop :=
  ∃ (j : Nat) (s : St) (x : Fra × Option Fra) (i : Option Nat) (M : Nat), v = .int .i64 j ∧ PE wr p m k g cap s t d hd rv ev ∧ V wr b x i ∧ s.U ∧ XU x ∧ RunM (lvS c) s x s' r M ∧ M + j = N ∧ (∀ q, i = some q → w.heap.size ≤ q) ∧ Fr [m, g, b] w wr
theorem AloVR.fr {w wr w' : World} {m g b : Nat} {i : Option Nat} (hf : Fr [m, g, b] w wr) (hi : ∀ q, i = some q → w.heap.size ≤ q) (h : Fr (m :: g :: b :: i.toList) wr w') : Fr [m, g, b] w w' := by
  refine Fr.drop hf h (fun y hy => ?_)
  simp only [List.mem_cons, Option.mem_toList] at hy
  rcases hy with rfl | rfl | rfl | hy
  · exact .inl (by simp)
  · exact .inl (by simp)
  · exact .inl (by simp)
  · exact .inr (hi y hy)
end Go.Proofs.Ytanbjdlaolgepaa
