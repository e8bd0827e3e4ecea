/-
  Plain mathematics of one bit of a word. No function is named.
-/
import Derived.Test.YtclbkmhlgopcaaaMgAT
namespace Go.Proofs.Ytclbkmhlgopcaaa
open Go Go.RowKit
set_option linter.unusedSimpArgs false

theorem maskS_nat (b : Nat) (hb : b < 64) : maskS (b : Int) = ((2 ^ b : Nat) : Int) := by
  unfold maskS
  rw [if_neg (by omega), Int.toNat_natCast]
theorem pow_lt64 (b : Nat) (hb : b < 64) : 2 ^ b < 18446744073709551616 := by
  have : (2 : Nat) ^ b ≤ 2 ^ 63 := Nat.pow_le_pow_right (by decide) (by omega)
  omega
theorem or_zero_mask (b : Nat) (hb : b < 64) : bits .or .u64 0 (maskS b) = maskS b := by
  rw [maskS_nat b hb]
  have := u64_or_nat 0 (2 ^ b) (by decide) (pow_lt64 b hb)
  rw [Nat.zero_or] at this
  exact this
theorem or_mask_mask (b : Nat) (hb : b < 64) : bits .or .u64 (maskS b) (maskS b) = maskS b := by
  rw [maskS_nat b hb]
  have := u64_or_nat (2 ^ b) (2 ^ b) (pow_lt64 b hb) (pow_lt64 b hb)
  rw [Nat.or_self] at this
  exact this
theorem and_not_self (y : Nat) (hy : y < 18446744073709551616) : y &&& (18446744073709551615 ^^^ y) = 0 := by
  apply Nat.eq_of_testBit_eq
  intro i
  have e1 : (18446744073709551615 : Nat) = 2 ^ 64 - 1 := by decide
  rw [Nat.testBit_and, Nat.testBit_xor, e1, Nat.testBit_two_pow_sub_one, Nat.zero_testBit]
  by_cases hi : i < 64
  · cases y.testBit i <;> simp [hi]
  · have hp : 18446744073709551616 ≤ 2 ^ i := Nat.pow_le_pow_right (n := 2) (by decide) (show 64 ≤ i by omega)
    have a := Nat.testBit_lt_two_pow (Nat.lt_of_lt_of_le hy hp)
    simp [a]
theorem notU_nat (y : Nat) (hy : y < 18446744073709551616) : notU (y : Int) = ((18446744073709551615 ^^^ y : Nat) : Int) := u64_xor_nat 18446744073709551615 y (by decide) hy
theorem not_lt64 (y : Nat) (hy : y < 18446744073709551616) : 18446744073709551615 ^^^ y < 18446744073709551616 := Nat.xor_lt_two_pow (n := 64) (by decide) hy
theorem and_zero_mask (b : Nat) (hb : b < 64) : bits .and .u64 0 (notU (maskS b)) = 0 := by
  rw [maskS_nat b hb, notU_nat _ (pow_lt64 b hb)]
  have := u64_and_nat 0 (18446744073709551615 ^^^ 2 ^ b) (by decide) (not_lt64 _ (pow_lt64 b hb))
  rw [Nat.zero_and] at this
  exact this
theorem and_mask_mask (b : Nat) (hb : b < 64) : bits .and .u64 (maskS b) (notU (maskS b)) = 0 := by
  rw [maskS_nat b hb, notU_nat _ (pow_lt64 b hb)]
  have := u64_and_nat (2 ^ b) (18446744073709551615 ^^^ 2 ^ b) (pow_lt64 b hb) (not_lt64 _ (pow_lt64 b hb))
  rw [and_not_self _ (pow_lt64 b hb)] at this
  exact this
theorem old_load (s : St) (i j : Int) : (s.go 1 i id).old j = s.old j := by
  by_cases e : i = j
  · subst e
    by_cases hi : s.has i
    · rw [go_old s 1 i id hi]; rfl
    · unfold St.go
      rw [if_neg hi]
  · exact go_other s 1 i j id e
section
variable {s : St}
theorem clearS_1 {f : Fra} (h : f.ln = 1) : clearS s f = (s.go 5 f.fa (fun x => bits .and .u64 x (notU (maskS f.fb))), { f with ln := 2 }, .none) := by
  rw [clearS, if_pos h]
theorem clearS_2 {f : Fra} (h : f.ln = 2) : clearS s f = (s.go 1 f.qb id, { f with fu := s.old f.qb, ln := 3 }, .none) := by
  rw [clearS, if_neg (by omega), if_pos h]
theorem clearS_3e {f : Fra} (h : f.ln = 3) (hc : sizeI f.fu (s.old f.qt) ≤ 0) : clearS s f = (s.go 1 f.qt id, { f with fv := s.old f.qt }, ⟨true, 2, 0⟩) := by
  rw [clearS, if_neg (by omega), if_neg (by omega), if_pos h, if_pos hc]
theorem clearS_3 {f : Fra} (h : f.ln = 3) (hc : ¬ sizeI f.fu (s.old f.qt) ≤ 0) : clearS s f = (s.go 1 f.qt id, { f with fv := s.old f.qt, ln := 4 }, .none) := by
  rw [clearS, if_neg (by omega), if_neg (by omega), if_pos h, if_neg hc]
theorem clearS_4 {f : Fra} (h : f.ln = 4) : clearS s f = (s.go 4 f.fa (fun x => bits .or .u64 x (maskS f.fb)), f, ⟨true, 1, 0⟩) := by
  rw [clearS, if_neg (by omega), if_neg (by omega), if_neg (by omega)]
end
end Go.Proofs.Ytclbkmhlgopcaaa
