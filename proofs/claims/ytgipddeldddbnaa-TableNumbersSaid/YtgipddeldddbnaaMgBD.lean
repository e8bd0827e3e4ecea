/-
  Plain mathematics of one bit of a word. No function is named.
  Package levels: a step of its machines. (Written by wip/gen_lvu.py, edited by hand since.)
  Package levels: Push and Pop, and the methods of their machines. (Written by wip/gen_lvl.py.)
  Package table: Allocate, Publish, Claim and Enter, and the methods of their machines. (Written by wip/gen_tbn.py.)
-/
import Derived.Test.YtgipddeldddbnaaMgAD
import Derived.Test.YtgipddeldddbnaaMgBA
import Derived.Test.YtgipddeldddbnaaMgBB
import Derived.Test.YtgipddeldddbnaaOwM
import Derived.Test.YtgipddeldddbnaaTbD
import Derived.Test.YtgipddeldddbnaaMgAZ
namespace Go.Proofs.Ytgipddeldddbnaa
open Go Go.RowKit
set_option linter.unusedSimpArgs false

theorem maskS_nat (b : Nat) (hb : b < 64) : maskS (b : Int) = ((2 ^ b : Nat) : Int) := by
  unfold maskS
  rw [if_neg (by omega), Int.toNat_natCast]
theorem pow_lt64 (b : Nat) (hb : b < 64) : 2 ^ b < 18446744073709551616 := by
  have : (2 : Nat) ^ b ≤ 2 ^ 63 := Nat.pow_le_pow_right (by decide) (by omega)
  omega
theorem or_zero_mask (b : Nat) (hb : b < 64) : bits .or .u64 0 (maskS b) = maskS b := by
  rw [maskS_nat b hb]
  have := u64_or_nat 0 (2 ^ b) (by decide) (pow_lt64 b hb)
  rw [Nat.zero_or] at this
  exact this
theorem or_mask_mask (b : Nat) (hb : b < 64) : bits .or .u64 (maskS b) (maskS b) = maskS b := by
  rw [maskS_nat b hb]
  have := u64_or_nat (2 ^ b) (2 ^ b) (pow_lt64 b hb) (pow_lt64 b hb)
  rw [Nat.or_self] at this
  exact this
theorem and_not_self (y : Nat) (hy : y < 18446744073709551616) : y &&& (18446744073709551615 ^^^ y) = 0 := by
  apply Nat.eq_of_testBit_eq
  intro i
  have e1 : (18446744073709551615 : Nat) = 2 ^ 64 - 1 := by decide
  rw [Nat.testBit_and, Nat.testBit_xor, e1, Nat.testBit_two_pow_sub_one, Nat.zero_testBit]
  by_cases hi : i < 64
  · cases y.testBit i <;> simp [hi]
  · have hp : 18446744073709551616 ≤ 2 ^ i := Nat.pow_le_pow_right (n := 2) (by decide) (show 64 ≤ i by omega)
    have a := Nat.testBit_lt_two_pow (Nat.lt_of_lt_of_le hy hp)
    simp [a]
theorem notU_nat (y : Nat) (hy : y < 18446744073709551616) : notU (y : Int) = ((18446744073709551615 ^^^ y : Nat) : Int) := u64_xor_nat 18446744073709551615 y (by decide) hy
theorem not_lt64 (y : Nat) (hy : y < 18446744073709551616) : 18446744073709551615 ^^^ y < 18446744073709551616 := Nat.xor_lt_two_pow (n := 64) (by decide) hy
theorem and_zero_mask (b : Nat) (hb : b < 64) : bits .and .u64 0 (notU (maskS b)) = 0 := by
  rw [maskS_nat b hb, notU_nat _ (pow_lt64 b hb)]
  have := u64_and_nat 0 (18446744073709551615 ^^^ 2 ^ b) (by decide) (not_lt64 _ (pow_lt64 b hb))
  rw [Nat.zero_and] at this
  exact this
theorem and_mask_mask (b : Nat) (hb : b < 64) : bits .and .u64 (maskS b) (notU (maskS b)) = 0 := by
  rw [maskS_nat b hb, notU_nat _ (pow_lt64 b hb)]
  have := u64_and_nat (2 ^ b) (18446744073709551615 ^^^ 2 ^ b) (pow_lt64 b hb) (not_lt64 _ (pow_lt64 b hb))
  rw [and_not_self _ (pow_lt64 b hb)] at this
  exact this
theorem old_load (s : St) (i j : Int) : (s.go 1 i id).old j = s.old j := by
  by_cases e : i = j
  · subst e
    by_cases hi : s.has i
    · rw [go_old s 1 i id hi]; rfl
    · unfold St.go
      rw [if_neg hi]
  · exact go_other s 1 i j id e
section
variable {s : St}
theorem clearS_1 {f : Fra} (h : f.ln = 1) : clearS s f = (s.go 5 f.fa (fun x => bits .and .u64 x (notU (maskS f.fb))), { f with ln := 2 }, .none) := by
  rw [clearS, if_pos h]
theorem clearS_2 {f : Fra} (h : f.ln = 2) : clearS s f = (s.go 1 f.qb id, { f with fu := s.old f.qb, ln := 3 }, .none) := by
  rw [clearS, if_neg (by omega), if_pos h]
theorem clearS_3e {f : Fra} (h : f.ln = 3) (hc : sizeI f.fu (s.old f.qt) ≤ 0) : clearS s f = (s.go 1 f.qt id, { f with fv := s.old f.qt }, ⟨true, 2, 0⟩) := by
  rw [clearS, if_neg (by omega), if_neg (by omega), if_pos h, if_pos hc]
theorem clearS_3 {f : Fra} (h : f.ln = 3) (hc : ¬ sizeI f.fu (s.old f.qt) ≤ 0) : clearS s f = (s.go 1 f.qt id, { f with fv := s.old f.qt, ln := 4 }, .none) := by
  rw [clearS, if_neg (by omega), if_neg (by omega), if_pos h, if_neg hc]
theorem clearS_4 {f : Fra} (h : f.ln = 4) : clearS s f = (s.go 4 f.fa (fun x => bits .or .u64 x (maskS f.fb)), f, ⟨true, 1, 0⟩) := by
  rw [clearS, if_neg (by omega), if_neg (by omega), if_neg (by omega)]
end
end Go.Proofs.Ytgipddeldddbnaa

namespace Go.Proofs.Ytgipddeldddbnaa
open Go Go.RowKit Go.Shelf
set_option linter.unusedSimpArgs false
set_option linter.unusedVariables false

/-- What a step gives. -/
def VStep (w : World) (p m k g cap : Nat) (s' : St) (t d : Int) (hd : List Value) (rv ev : Value) (b : Nat) (ty : TypeId) (V : World → Nat → Fra × Option Fra → Option Nat → Prop) (x' : Fra × Option Fra) (r : Res) (i : Option Nat) (e : Ending) (w' : World) : Prop :=
  e = .returned (.bool r.dn) ∧ PE w' p m k g cap s' t d hd rv ev ∧ (r.dn = true → ∃ post f', LB w' b ty post f' r.cd r.vl ∧ f'.ln = 0) ∧
    (r.dn = false → ∃ i', V w' b x' i' ∧ (i' = i ∨ ∀ q, i' = some q → w.heap.size ≤ q)) ∧ Fr (m :: g :: b :: i.toList) w w'

section
variable {w w' : World} {p m k g cap : Nat} {s : St} {t d : Int} {hd : List Value} {rv ev : Value} {c : Cfg} {b : Nat} {f : Fra} {o : Option Fra} {i : Option Nat}
theorem cap_small (hin : CfgIn c) (a l : Int) : (rQueue c a l).2.2.2 ≤ 9223372036854775807 := by
  unfold rQueue
  split
  · have := hin.de.2
    show c.de ≤ _
    omega
  · show (0 : Int) ≤ _
    omega
end
end Go.Proofs.Ytgipddeldddbnaa

namespace Go.Proofs.Ytgipddeldddbnaa
open Go Go.RowKit Go.Shelf
set_option linter.unusedSimpArgs false

abbrev ocellz : Array Value := #[.int .i64 1, .int .i64 0, .int .i64 0, .nilIface]
abbrev ocell0 : Array Value := #[.int .i64 0, .int .i64 0, .int .i64 0, .nilIface]
/-- What Push and Pop give: a machine at its first line. -/
def VNew (V : World → Nat → Fra × Option Fra → Option Nat → Prop) (ty : TypeId) (f : Fra) (w : World) (e : Ending) (w' : World) : Prop :=
  ∃ b : Nat, e = .returned (.iface ty (.pointer (some ⟨b, 0, none⟩))) ∧ V w' b (f, none) none ∧ w.heap.size ≤ b ∧ Below w.heap.size w w'
abbrev fraLP (a l v : Int) : Fra := ⟨5, 1, 0, 0, 0, 0, a, l, v, 0, 0, 0, 0, 0, 0, 0, 0, .slice none 0 0⟩
abbrev fraLQ (a : Int) : Fra := ⟨6, 1, 0, 0, 0, 0, a, 0, 0, 0, 0, 0, 0, 0, 0, 0, 0, .slice none 0 0⟩
end Go.Proofs.Ytgipddeldddbnaa

namespace Go.Proofs.Ytgipddeldddbnaa
open Go Go.RowKit Go.Shelf
set_option linter.unusedSimpArgs false
set_option linter.unusedVariables false

abbrev fraA : Fra := fra1 12 0 0 0 0 0
abbrev fraPb (t l : Int) : Fra := ⟨13, 1, 0, 0, 0, 0, t, l, 0, 0, 0, 0, 0, 0, 0, 0, 0, .slice none 0 0⟩
abbrev fraCl (a t : Int) : Fra := ⟨14, 1, 0, 0, 0, 0, a, t, 0, 0, 0, 0, 0, 0, 0, 0, 0, .slice none 0 0⟩
abbrev fraEn (a t : Int) : Fra := ⟨15, 1, 0, 0, 0, 0, a, t, 0, 0, 0, 0, 0, 0, 0, 0, 0, .slice none 0 0⟩
/-- What Allocate gives. -/
def allocator_made (w : World) (e : Ending) (w' : World) : Prop :=
  ∃ q : Nat, e = .returned (.iface 62 (.pointer (some ⟨q, 0, none⟩))) ∧ LB w' q 67 [] fraA 0 0 ∧ w.heap.size ≤ q ∧ Below w.heap.size w w'
set_option maxHeartbeats 2000000 in
theorem allocator_new (w : World) : Calls Try.prog 8 #[] w (allocator_made  w) := by
  go_enter Try.func8, Try.ntmps8
  go_wp2_with fail
  (with_reducible refine (lbegin_any _).mono ?_)
  rintro e w1 ⟨rfl, hb⟩
  have HB := Lib.hid hb
  clear hb
  go_wp2
  go_ret
  have hs := HB.out.size
  refine ⟨w1.heap.size, rfl, ⟨Blk.made w1 _ _, by decide, by decide, by decide, by decide⟩, hs, HB.out.trans ((below_one w1 _).mono hs)⟩
theorem meth_step_allocator (q : Nat) (w : World) : (method 243 62 (.pointer (some ⟨q, 0, none⟩)) "Step").run Try.prog w = .ok (56, .pointer (some ⟨q, 0, none⟩)) w := by kernel_rfl
theorem ahead_step_allocator (q : Nat) (w : World) : (nilAhead 243 62 (.pointer (some ⟨q, 0, none⟩)) "Step").run Try.prog w = .ok (some false) w := by kernel_rfl
theorem meth_result_allocator (q : Nat) (w : World) : (method 243 62 (.pointer (some ⟨q, 0, none⟩)) "Result").run Try.prog w = .ok (55, .pointer (some ⟨q, 0, none⟩)) w := by kernel_rfl
theorem ahead_result_allocator (q : Nat) (w : World) : (nilAhead 243 62 (.pointer (some ⟨q, 0, none⟩)) "Result").run Try.prog w = .ok (some false) w := by kernel_rfl
/-- What Publish gives. -/
def publisher_made (a b : Int) (w : World) (e : Ending) (w' : World) : Prop :=
  ∃ q : Nat, e = .returned (.iface 86 (.pointer (some ⟨q, 0, none⟩))) ∧ LB w' q 90 [.int .i64 a, .int .i64 b] (fraPb a b) 0 0 ∧ w.heap.size ≤ q ∧ Below w.heap.size w w'
set_option maxHeartbeats 2000000 in
theorem publisher_new (a b : Int) (w : World) : Calls Try.prog 15 #[.int .i64 a, .int .i64 b] w (publisher_made a b w) := by
  go_enter Try.func15, Try.ntmps15
  go_wp2_with fail
  (with_reducible refine (lbegin_any _).mono ?_)
  rintro e w1 ⟨rfl, hb⟩
  have HB := Lib.hid hb
  clear hb
  go_wp2
  go_ret
  have hs := HB.out.size
  refine ⟨w1.heap.size, rfl, ⟨Blk.made w1 _ _, by decide, by decide, by decide, by decide⟩, hs, HB.out.trans ((below_one w1 _).mono hs)⟩
theorem meth_step_publisher (q : Nat) (w : World) : (method 243 86 (.pointer (some ⟨q, 0, none⟩)) "Step").run Try.prog w = .ok (65, .pointer (some ⟨q, 0, none⟩)) w := by kernel_rfl
theorem ahead_step_publisher (q : Nat) (w : World) : (nilAhead 243 86 (.pointer (some ⟨q, 0, none⟩)) "Step").run Try.prog w = .ok (some false) w := by kernel_rfl
theorem meth_result_publisher (q : Nat) (w : World) : (method 243 86 (.pointer (some ⟨q, 0, none⟩)) "Result").run Try.prog w = .ok (55, .pointer (some ⟨q, 0, none⟩)) w := by kernel_rfl
theorem ahead_result_publisher (q : Nat) (w : World) : (nilAhead 243 86 (.pointer (some ⟨q, 0, none⟩)) "Result").run Try.prog w = .ok (some false) w := by kernel_rfl
/-- What Claim gives. -/
def claimer_made (a b : Int) (w : World) (e : Ending) (w' : World) : Prop :=
  ∃ q : Nat, e = .returned (.iface 91 (.pointer (some ⟨q, 0, none⟩))) ∧ LB w' q 93 (cpost (fraCl a b)) (fraCl a b) 0 0 ∧ w.heap.size ≤ q ∧ Below w.heap.size w w'
set_option maxHeartbeats 2000000 in
theorem claimer_new (a b : Int) (w : World) : Calls Try.prog 16 #[.int .i64 a, .int .i64 b] w (claimer_made a b w) := by
  go_enter Try.func16, Try.ntmps16
  go_wp2_with fail
  (with_reducible refine (lbegin_any _).mono ?_)
  rintro e w1 ⟨rfl, hb⟩
  have HB := Lib.hid hb
  clear hb
  go_wp2
  go_ret
  have hs := HB.out.size
  refine ⟨w1.heap.size, rfl, ⟨Blk.made w1 _ _, by decide, by decide, by decide, by decide⟩, hs, HB.out.trans ((below_one w1 _).mono hs)⟩
theorem meth_step_claimer (q : Nat) (w : World) : (method 243 91 (.pointer (some ⟨q, 0, none⟩)) "Step").run Try.prog w = .ok (79, .pointer (some ⟨q, 0, none⟩)) w := by kernel_rfl
theorem ahead_step_claimer (q : Nat) (w : World) : (nilAhead 243 91 (.pointer (some ⟨q, 0, none⟩)) "Step").run Try.prog w = .ok (some false) w := by kernel_rfl
theorem meth_result_claimer (q : Nat) (w : World) : (method 243 91 (.pointer (some ⟨q, 0, none⟩)) "Result").run Try.prog w = .ok (55, .pointer (some ⟨q, 0, none⟩)) w := by kernel_rfl
theorem ahead_result_claimer (q : Nat) (w : World) : (nilAhead 243 91 (.pointer (some ⟨q, 0, none⟩)) "Result").run Try.prog w = .ok (some false) w := by kernel_rfl
end Go.Proofs.Ytgipddeldddbnaa
