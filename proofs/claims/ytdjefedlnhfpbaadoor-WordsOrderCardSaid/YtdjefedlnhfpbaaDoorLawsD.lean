/-
  The walk of the statement WordsCuts: it returns true.
-/
import Derived.Test.YtdjefedlnhfpbaaDoorLawsB
namespace Go.Proofs.YtdjefedlnhfpbaaDoor
open Go Go.RowKit

theorem and_bit (a b j : Nat) : bitB (a &&& b) j = (bitB a j && bitB b j) := Nat.testBit_and a b j

theorem cut_low (x A j : Nat) (hA : A ≤ 64) : bitB (x &&& spanS 0 A) j = (bitB x j && decide (j < A)) := by
  rw [and_bit, spanS_bit]
  congr 1
  rw [Bool.eq_iff_iff]
  simp
  omega

theorem cut_high (x A j : Nat) (hx : x < 18446744073709551616) : bitB (x &&& spanS A 64) j = (bitB x j && decide (A ≤ j)) := by
  rw [and_bit, spanS_bit]
  by_cases hj : j < 64
  · congr 1
    rw [Bool.eq_iff_iff]
    simp
    omega
  · rw [bitB_ge64 x j hx (by omega)]
    rfl

theorem cut_or (x A : Nat) (hx : x < 18446744073709551616) (hA : A ≤ 64) : (x &&& spanS 0 A) ||| (x &&& spanS A 64) = x := by
  apply eq_of_bits
  intro j
  have h1 := cut_low x A j hA
  have h2 := cut_high x A j hx
  unfold bitB at *
  rw [Nat.testBit_or, h1, h2]
  by_cases h : j < A
  · cases x.testBit j <;> simp [h]
  · have : A ≤ j := by omega
    simp [h, this]

theorem cut_and (x A : Nat) (hx : x < 18446744073709551616) (hA : A ≤ 64) : (x &&& spanS 0 A) &&& (x &&& spanS A 64) = 0 := by
  apply eq_of_bits
  intro j
  rw [and_bit, cut_low x A j hA, cut_high x A j hx, bitB_zero]
  by_cases h : j < A
  · have : ¬ A ≤ j := by omega
    simp [this]
  · simp [h]

theorem cut_cnt (x A : Nat) (hx : x < 18446744073709551616) (hA : A ≤ 64) : ∀ k, cntF (x &&& spanS 0 A) k + cntF (x &&& spanS A 64) k = cntF x k
  | 0 => rfl
  | k + 1 => by
    have ih := cut_cnt x A hx hA k
    rw [cntF, cntF, cntF, cut_low x A k hA, cut_high x A k hx]
    by_cases h : k < A
    · have h' : ¬ A ≤ k := by omega
      cases bitB x k <;> simp [h, h'] <;> omega
    · have h' : A ≤ k := by omega
      cases bitB x k <;> simp [h, h'] <;> omega

theorem cut_hi (x A : Nat) (hA : A ≤ 64) : hiS (x &&& spanS 0 A) < (A : Int) := by
  have : x &&& spanS 0 A < 2 ^ A := by
    apply Nat.lt_pow_two_of_testBit
    intro j hj
    have := cut_low x A j hA
    unfold bitB at this
    rw [this]
    have : ¬ j < A := by omega
    simp [this]
  have := Lib.bitLen_le _ A hA this
  unfold hiS
  omega

theorem cut_lo (x A : Nat) (hx : x < 18446744073709551616) (h0 : x &&& spanS A 64 ≠ 0) : (A : Int) ≤ loS (x &&& spanS A 64) := by
  have hl : x &&& spanS A 64 < 18446744073709551616 := Nat.lt_of_le_of_lt Nat.and_le_left hx
  have := (ctz_spec _ h0 hl).1
  rw [cut_high x A _ hx] at this
  unfold loS
  rw [if_neg h0]
  simp at this
  omega

theorem bits_and_nat (a b c : Nat) (ha : a < 18446744073709551616) (hb : b < 18446744073709551616) (h : a &&& b = c) : bits .and .u64 (a : Int) (b : Int) = (c : Int) := by
  rw [bits_and_u64_nat a b ha hb, h]

theorem bits_or_nat (a b c : Nat) (ha : a < 18446744073709551616) (hb : b < 18446744073709551616) (h : a ||| b = c) : bits .or .u64 (a : Int) (b : Int) = (c : Int) := by
  rw [bits_or_u64_nat a b ha hb, h]

theorem loS_bd (x : Nat) (hx : x < 18446744073709551616) : -1 ≤ loS x ∧ loS x ≤ 63 := by
  rw [← nth_zero_low x hx]
  exact nthF_bounds x 64 0 (by decide)

set_option maxHeartbeats 2000000 in
theorem cuts_law (x : Nat) (n : Int) (hx : x < 18446744073709551616) (w : World) (hT : Tab w) :
    Calls Tryd.prog 5 #[.int .u64 (x : Int), .int .i64 n] w fun e w' => e = .returned (.bool true) ∧ w = w' := by
  have HA := Lib.hid (awake_any w hT)
  have HT := Lib.hid hT
  clear hT
  obtain ⟨q0, q1⟩ := tmod_bd n 65 (by decide)
  obtain ⟨A, hA1'⟩ : ∃ A : Nat, n.tmod 65 % 65 = (A : Int) := ⟨(n.tmod 65 % 65).toNat, by omega⟩
  have hA1 : (n.tmod 65 + 65) % 65 = (A : Int) := by omega
  have hA : A ≤ 64 := by omega
  obtain ⟨lo, hlo⟩ : ∃ lo, x &&& spanS 0 A = lo := ⟨_, rfl⟩
  obtain ⟨hi, hhi⟩ : ∃ hi, x &&& spanS A 64 = hi := ⟨_, rfl⟩
  have l1 : lo < 18446744073709551616 := hlo ▸ Nat.lt_of_le_of_lt Nat.and_le_left hx
  have l2 : hi < 18446744073709551616 := hhi ▸ Nat.lt_of_le_of_lt Nat.and_le_left hx
  have k1 := bits_and_nat x (spanS 0 A) lo hx (spanS_lt _ _) hlo
  have k2 := bits_and_nat x (spanS A 64) hi hx (spanS_lt _ _) hhi
  have k3 := bits_or_nat lo hi x l1 l2 (by rw [← hlo, ← hhi]; exact cut_or x A hx hA)
  have k4 := bits_and_nat lo hi 0 l1 l2 (by rw [← hlo, ← hhi]; exact cut_and x A hx hA)
  have hc := cut_cnt x A hx hA 64
  rw [hlo, hhi] at hc
  have c1 := cntF_le lo 64
  have c2 := cntF_le hi 64
  have k5 : cntS lo + cntS hi = cntS x := by unfold cntS; omega
  have k6 : hiS lo < (A : Int) := hlo ▸ cut_hi x A hA
  have k7 : ((hi : Int) == 0) = false → (A : Int) ≤ loS hi := fun h => hhi ▸ cut_lo x A hx (by rw [hhi]; simpa using h)
  obtain ⟨n1, n2⟩ := loS_bd hi l2
  have n3 : -1 ≤ hiS lo := by unfold hiS; omega
  have HS1 := Lib.hid (span_any 0 A w)
  have HS2 := Lib.hid (span_any A 64 w)
  have p1 : 0 ≤ cntS lo := by unfold cntS; omega
  have p2 : cntS lo ≤ 64 := by unfold cntS; omega
  have p3 : 0 ≤ cntS hi := by unfold cntS; omega
  have p4 : cntS hi ≤ 64 := by unfold cntS; omega
  have HC1 := Lib.hid (count_any lo l1 w)
  have HC2 := Lib.hid (count_any hi l2 w)
  have HC3 := Lib.hid (count_any x hx w)
  have HH := Lib.hid (high_any lo l1 w)
  have HL := Lib.hid (low_any hi l2 w HT.out)
  have K7 := Lib.hid k7
  clear hlo hhi hc c1 c2 k7
  generalize spanS 0 A = s1 at k1 HS1
  generalize spanS A 64 = s2 at k2 HS2
  generalize cntS lo = m1 at *
  generalize cntS hi = m2 at *
  generalize cntS x = m3 at *
  generalize hiS lo = h1 at *
  generalize loS hi = h2 at *
  by_cases z1 : ((lo : Int) == 0) = true
  · by_cases z2 : ((hi : Int) == 0) = true
    · go_enter Tryd.func5, Tryd.ntmps5
      go_wp2_with fail
      refine HS1.out.mono ?_
      rintro e w' ⟨rfl, rfl⟩
      go_wp2_with fail
      refine HS2.out.mono ?_
      rintro e w' ⟨rfl, rfl⟩
      go_wp2_with fail
      refine HA.out.mono ?_
      rintro e w' ⟨rfl, rfl⟩
      go_wp2_with fail
      refine HC1.out.mono ?_
      rintro e w' ⟨rfl, rfl⟩
      go_wp2_with fail
      refine HC2.out.mono ?_
      rintro e w' ⟨rfl, rfl⟩
      go_wp2_with fail
      refine HC3.out.mono ?_
      rintro e w' ⟨rfl, rfl⟩
      go_wp2
      go_ret
      exact ⟨rfl, rfl⟩
    · have z2' : ((hi : Int) == 0) = false := by simpa using z2
      have k7 := K7.out z2'
      clear z2
      go_enter Tryd.func5, Tryd.ntmps5
      go_wp2_with fail
      refine HS1.out.mono ?_
      rintro e w' ⟨rfl, rfl⟩
      go_wp2_with fail
      refine HS2.out.mono ?_
      rintro e w' ⟨rfl, rfl⟩
      go_wp2_with fail
      refine HA.out.mono ?_
      rintro e w' ⟨rfl, rfl⟩
      go_wp2_with fail
      refine HC1.out.mono ?_
      rintro e w' ⟨rfl, rfl⟩
      go_wp2_with fail
      refine HC2.out.mono ?_
      rintro e w' ⟨rfl, rfl⟩
      go_wp2_with fail
      refine HC3.out.mono ?_
      rintro e w' ⟨rfl, rfl⟩
      go_wp2_with fail
      refine HL.out.mono ?_
      rintro e w' ⟨rfl, rfl⟩
      go_wp2
      go_ret
      exact ⟨rfl, rfl⟩
  · have z1' : ((lo : Int) == 0) = false := by simpa using z1
    clear z1
    by_cases z2 : ((hi : Int) == 0) = true
    · go_enter Tryd.func5, Tryd.ntmps5
      go_wp2_with fail
      refine HS1.out.mono ?_
      rintro e w' ⟨rfl, rfl⟩
      go_wp2_with fail
      refine HS2.out.mono ?_
      rintro e w' ⟨rfl, rfl⟩
      go_wp2_with fail
      refine HA.out.mono ?_
      rintro e w' ⟨rfl, rfl⟩
      go_wp2_with fail
      refine HC1.out.mono ?_
      rintro e w' ⟨rfl, rfl⟩
      go_wp2_with fail
      refine HC2.out.mono ?_
      rintro e w' ⟨rfl, rfl⟩
      go_wp2_with fail
      refine HC3.out.mono ?_
      rintro e w' ⟨rfl, rfl⟩
      go_wp2_with fail
      refine HH.out.mono ?_
      rintro e w' ⟨rfl, rfl⟩
      go_wp2
      go_ret
      exact ⟨rfl, rfl⟩
    · have z2' : ((hi : Int) == 0) = false := by simpa using z2
      have k7 := K7.out z2'
      clear z2
      go_enter Tryd.func5, Tryd.ntmps5
      go_wp2_with fail
      refine HS1.out.mono ?_
      rintro e w' ⟨rfl, rfl⟩
      go_wp2_with fail
      refine HS2.out.mono ?_
      rintro e w' ⟨rfl, rfl⟩
      go_wp2_with fail
      refine HA.out.mono ?_
      rintro e w' ⟨rfl, rfl⟩
      go_wp2_with fail
      refine HC1.out.mono ?_
      rintro e w' ⟨rfl, rfl⟩
      go_wp2_with fail
      refine HC2.out.mono ?_
      rintro e w' ⟨rfl, rfl⟩
      go_wp2_with fail
      refine HC3.out.mono ?_
      rintro e w' ⟨rfl, rfl⟩
      go_wp2_with fail
      refine HH.out.mono ?_
      rintro e w' ⟨rfl, rfl⟩
      go_wp2_with fail
      refine HL.out.mono ?_
      rintro e w' ⟨rfl, rfl⟩
      go_wp2
      go_ret
      exact ⟨rfl, rfl⟩
end Go.Proofs.YtdjefedlnhfpbaaDoor
