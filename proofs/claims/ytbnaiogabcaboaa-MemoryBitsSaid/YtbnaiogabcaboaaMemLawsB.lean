/-
  The walk of the statement MemoryBits: it returns true.
-/
import Derived.Test.YtbnaiogabcaboaaMemLawsA
import Derived.Laws.BitsAllLaws
import Derived.Laws.BitsLemmas
namespace Go.Proofs.Ytbnaiogabcaboaa
open Go Go.RowKit Go.Shelf

theorem clear_or (x y : Nat) (hx : x < 18446744073709551616) (hy : y < 18446744073709551616) :
    bits .and .u64 (bits .or .u64 (x : Int) (y : Int)) (bits .xor .u64 IntKind.u64.max (y : Int)) = bits .andNot .u64 (x : Int) (y : Int) := by
  have hm : IntKind.u64.max = ((18446744073709551615 : Nat) : Int) := rfl
  have h1 : x ||| y < 2 ^ 64 := Nat.or_lt_two_pow hx hy
  have h2 : 18446744073709551615 ^^^ y < 2 ^ 64 := Nat.xor_lt_two_pow (by decide) hy
  rw [hm, u64_or_nat x y hx hy, u64_xor_nat _ y (by decide) hy, u64_and_nat _ _ h1 h2, u64_andNot_nat x y hx hy]
  congr 1
  apply Nat.eq_of_testBit_eq
  intro i
  have e1 : (18446744073709551615 : Nat) = 2 ^ 64 - 1 := by decide
  have e2 : 18446744073709551615 - y = 2 ^ 64 - (y + 1) := by omega
  rw [e2, Nat.testBit_and, Nat.testBit_and, Nat.testBit_or, Nat.testBit_xor, e1, Nat.testBit_two_pow_sub_one, Nat.testBit_two_pow_sub_succ hy]
  by_cases hi : i < 64
  · cases x.testBit i <;> cases y.testBit i <;> simp [hi]
  · have hp : 18446744073709551616 ≤ 2 ^ i := Nat.pow_le_pow_right (n := 2) (by decide) (show 64 ≤ i by omega)
    have a := Nat.testBit_lt_two_pow (Nat.lt_of_lt_of_le hx hp)
    have b := Nat.testBit_lt_two_pow (Nat.lt_of_lt_of_le hy hp)
    simp [a, b, hi]

set_option maxHeartbeats 1000000 in
theorem bits_walk (x y z o : Int) (ho : bits .or .u64 x y = o) (hz : bits .and .u64 o (bits .xor .u64 IntKind.u64.max y) = z) (hz' : bits .andNot .u64 x y = z) (w : World) : Calls Try.prog 7 #[.int .u64 x, .int .u64 y] w fun e w' => e = .returned (.bool true) ∧ Below w.heap.size w w' := by
  have heq := fun a b c d w => eq_access a b c d a b c d w
  simp only [beq_self_eq_true, Bool.and_true] at heq
  go_enter Try.func7, Try.ntmps7
  go_wp2_with fail
  refine (new_any 3 w).mono ?_
  rintro e w1 ⟨rfl, hm, hb⟩
  have es : sizeS 3 = 3 := rfl
  rw [es] at hm
  clear es
  go_wp2_with fail
  refine (awake_any w1).mono ?_
  rintro e w2 ⟨rfl, hb2⟩
  have hm2 := hm.fr (Fr.old (S := []) hb2) (by simp) (by simp)
  have hb2' : Below w.heap.size w w2 := hb.trans (hb2.mono hb.size)
  clear hb hb2 hm
  have hfr : Fr [w.heap.size + 1, w.heap.size] w w2 := Fr.old hb2'
  clear hb2'
  go_wp2_with fail
  refine (store_any hm2 1 x).mono ?_
  rintro e w3 ⟨rfl, hm3, hf3⟩
  have k3 : (St.new 3).go 2 1 (fun _ => x) = ⟨[0, x, 0], 1, 2, 1, 0, x⟩ := by kernel_rfl
  rw [k3] at hm3
  clear k3
  go_wp2_with fail
  refine (or_any hm3 1 y).mono ?_
  rintro e w4 ⟨rfl, hm4, hf4⟩
  have k4 : (St.mk [0, x, 0] 1 2 1 0 x).go 4 1 (fun x => bits .or .u64 x y) = ⟨[0, bits .or .u64 x y, 0], 2, 4, 1, x, bits .or .u64 x y⟩ := by kernel_rfl
  rw [k4, ho] at hm4
  have k4' : (St.mk [0, x, 0] 1 2 1 0 x).old 1 = x := by kernel_rfl
  rw [k4']
  clear k4 k4'
  go_wp2_with fail
  refine (and_any hm4 1 _).mono ?_
  rintro e w5 ⟨rfl, hm5, hf5⟩
  have k5 : (St.mk [0, o, 0] 2 4 1 x o).go 5 1 (fun x => bits .and .u64 x (bits .xor .u64 IntKind.u64.max y)) = ⟨[0, bits .and .u64 o (bits .xor .u64 IntKind.u64.max y), 0], 3, 5, 1, o, bits .and .u64 o (bits .xor .u64 IntKind.u64.max y)⟩ := by kernel_rfl
  rw [k5, hz] at hm5
  have k5' : (St.mk [0, o, 0] 2 4 1 x o).old 1 = o := by kernel_rfl
  rw [k5']
  clear k5 k5'
  go_wp2_with fail
  refine (load_any hm5 1).mono ?_
  rintro e w6 ⟨rfl, hm6, hf6⟩
  have k6 : (St.mk [0, z, 0] 3 5 1 o z).go 1 1 id = ⟨[0, z, 0], 4, 1, 1, z, z⟩ := by kernel_rfl
  rw [k6] at hm6
  have k6' : (St.mk [0, z, 0] 3 5 1 o z).old 1 = z := by kernel_rfl
  rw [k6']
  clear k6 k6'
  go_wp2_with fail
  refine (last_any hm6).mono ?_
  rintro e w7 ⟨rfl, hb7⟩
  have hm7 := hm6.fr (Fr.old (S := []) hb7) (by simp) (by simp)
  have hend := (((((hfr.trans hf3).trans hf4).trans hf5).trans hf6).drop (Fr.old (S := []) hb7) (by simp)).below (B := w.heap.size) (Nat.le_refl _) (by simp)
  clear hm2 hm3 hm4 hm5 hm6 hf3 hf4 hf5 hf6 hfr hb7
  go_wp2_with fail
  refine (count_any hm7).mono ?_
  rintro e w' ⟨rfl, rfl⟩
  clear hm7
  go_wp2
  go_ret
  exact ⟨rfl, hend⟩

theorem bits_law (x y : Nat) (hx : x < 18446744073709551616) (hy : y < 18446744073709551616) (w : World) :
    Calls Try.prog 7 #[.int .u64 (x : Int), .int .u64 (y : Int)] w fun e w' => e = .returned (.bool true) ∧ Below w.heap.size w w' :=
  bits_walk _ _ _ _ rfl (clear_or x y hx hy) rfl w
end Go.Proofs.Ytbnaiogabcaboaa
