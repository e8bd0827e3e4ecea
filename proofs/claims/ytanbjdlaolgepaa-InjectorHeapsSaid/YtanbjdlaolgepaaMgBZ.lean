/-
  The contracts of the reference's words (workstealref01): power and Mask.
  The contracts of the reference's words (workstealref01): Bit.
  The contracts of the reference's words (workstealref01) alone. (Taken out of XCallsA .. XCallsD; with ret_int named reti.)
-/
import Derived.Test.YtanbjdlaolgepaaMgAB
import Derived.Test.YtanbjdlaolgepaaMgAH
import Derived.WalkSpells
import Derived.Lib.Hide
import Derived.Deep.QuietTactic
import Derived.BigQuiet
import Derived.Outline
import Derived.Test.YtanbjdlaolgepaaMgAZ
namespace Go.Proofs.Ytanbjdlaolgepaa
open Go Go.RowKit

theorem reti {k : IntKind} {a b : Int} (h : a = b) : Ending.returned (.int k a) = .returned (.int k b) := by rw [h]

theorem power_next (k j q : Nat) (hk : k < 64) (h0 : 0 < j) (hq : q * 2 ^ j = 2 ^ k) : q * 2 * 2 ^ (j - 1) = 2 ^ k ∧ q * 2 < 18446744073709551616 := by
  obtain ⟨i, rfl⟩ : ∃ i, j = i + 1 := ⟨j - 1, by omega⟩
  rw [Nat.pow_succ] at hq
  have e : q * 2 * 2 ^ (i + 1 - 1) = 2 ^ k := by
    rw [show i + 1 - 1 = i by omega, Nat.mul_assoc, Nat.mul_comm 2]
    exact hq
  refine ⟨e, ?_⟩
  have h1 : q * 2 ≤ q * 2 * 2 ^ (i + 1 - 1) := Nat.le_mul_of_pos_right _ (Nat.two_pow_pos _)
  have h2 : (2 : Nat) ^ k ≤ 2 ^ 63 := Nat.pow_le_pow_right (by decide) (by omega)
  omega

set_option maxHeartbeats 400000 in
theorem power_any (k : Nat) (hk : k < 64) (w : World) :
    Calls Try.prog 24 #[.int .i64 (k : Int)] w fun e w' => e = .returned (.int .u64 ((2 ^ k : Nat) : Int)) ∧ w = w' := by
  obtain ⟨P, hP⟩ : ∃ P : Nat, P = 2 ^ k := ⟨_, rfl⟩
  rw [← hP]
  have HP := Lib.hid hP
  clear hP
  go_enter Try.func24, Try.ntmps24
  go_wp2
  go_loop [0, 3] (fun i p => ∃ j q : Nat, j ≤ k ∧ i = .int .i64 (j : Int) ∧ p = .int .u64 (q : Int) ∧ Hid (q * 2 ^ j = 2 ^ k)) (fun i _ => (intOf i).toNat)
  case atStart => exact ⟨k, 1, Nat.le_refl _, rfl, rfl, Lib.hid (by simp)⟩
  case round =>
    obtain ⟨j, q, hj, rfl, rfl, HQ⟩ := hrel
    by_cases h0 : 0 < j
    · obtain ⟨hn, hb⟩ := power_next k j q hk h0 HQ.out
      have HN := Lib.hid hn
      clear hn
      go_wp2
      go_round
      case rel => exact ⟨j - 1, q * 2, by omega, by go_num, by go_num, HN⟩
      case measure => simp [intOf]; omega
    · go_wp2
      go_ret
      obtain rfl : j = 0 := by omega
      have := HQ.out
      rw [HP.out]
      rw [Nat.pow_zero, Nat.mul_one] at this
      rw [← this]
      exact ⟨rfl, rfl⟩

end Go.Proofs.Ytanbjdlaolgepaa

namespace Go.Proofs.Ytanbjdlaolgepaa
open Go Go.RowKit

theorem bit_walk (x i p : Nat) (hx : x < 18446744073709551616) (hp : p = 2 ^ i) : ((IntKind.u64.wrap ((x : Int) / (p : Int))).tmod 2 == 1) = bitB x i := by
  have h0 : x / p ≤ x := Nat.div_le_self _ _
  have e : IntKind.u64.wrap ((x : Int) / (p : Int)) = ((x / p : Nat) : Int) := by
    rw [IntKind.wrap_u64, ← Int.natCast_ediv]
    generalize x / p = q at h0 ⊢
    omega
  rw [e, ← bitB_quo, hp]
  generalize x / 2 ^ i = q
  have e2 : ((q : Int)).tmod 2 = ((q % 2 : Nat) : Int) := by
    rw [Int.tmod_eq_emod_of_nonneg (by omega)]
    omega
  rw [e2, Bool.eq_iff_iff]
  simp
  omega

end Go.Proofs.Ytanbjdlaolgepaa

namespace Go.Proofs.Ytanbjdlaolgepaa
open Go Go.RowKit

theorem neg_step (c : Int) (k : Nat) (hk : k < 64) (h : (-9223372036854775808 ≤ c ∧ c < 0) ∨ (9223372036854775807 - (k : Int) ≤ c ∧ c ≤ 9223372036854775807)) :
    (-9223372036854775808 ≤ wrap64 (c - 1) ∧ wrap64 (c - 1) < 0) ∨ (9223372036854775807 - ((k + 1 : Nat) : Int) ≤ wrap64 (c - 1) ∧ wrap64 (c - 1) ≤ 9223372036854775807) := by
  unfold wrap64; omega

/-- What is left of a negative count: never 0, although it may wrap. -/
def Neg (k : Nat) (c : Int) : Prop := (-9223372036854775808 ≤ c ∧ c < 0) ∨ (9223372036854775807 - (k : Int) ≤ c ∧ c ≤ 9223372036854775807)

/-- The class of a level, by the document. -/
def classS (level levels classes : Int) : Int :=
  if (1 ≤ levels ∧ levels ≤ 64 ∧ 1 ≤ classes ∧ classes ≤ 8) ∧ (0 ≤ level ∧ level < levels) then level * classes / levels else 0

theorem class_walk (level levels classes : Int) (h : (1 ≤ levels ∧ levels ≤ 64 ∧ 1 ≤ classes ∧ classes ≤ 8) ∧ (0 ≤ level ∧ level < levels)) :
    0 ≤ level * classes ∧ level * classes ≤ 512 := by
  obtain ⟨⟨a, b, c, d⟩, e, f⟩ := h
  refine ⟨Int.mul_nonneg e (by omega), ?_⟩
  have : level * classes ≤ 64 * 8 := Int.mul_le_mul (by omega) d (by omega) (by omega)
  omega

set_option maxHeartbeats 1000000 in
theorem rpack_ok (d a t : Int) (h : Keyed d a t) (w : World) :
    Calls Try.prog 10 #[.int .i64 d, .int .i64 a, .int .i64 t] w fun e w' => e = .returned (.tuple #[.int .u64 (keyS d a t), .bool true]) ∧ w = w' := by
  obtain ⟨⟨d0, d1⟩, ⟨a0, a1⟩, t0, t1⟩ := h
  have p24 : Hid (∀ w, Calls Try.prog 24 #[.int .i64 24] w fun e w' => e = .returned (.int .u64 16777216) ∧ w = w') := Lib.hid (fun w => power_any 24 (by decide) w)
  have p16 : Hid (∀ w, Calls Try.prog 24 #[.int .i64 16] w fun e w' => e = .returned (.int .u64 65536) ∧ w = w') := Lib.hid (fun w => power_any 16 (by decide) w)
  have key : (d * 16777216 + a) * 65536 + t = keyS d a t := by unfold keyS; omega
  generalize keyS d a t = k at key ⊢
  go_enter Try.func10, Try.ntmps10
  go_wp2_with fail
  refine (p24.out _).mono ?_
  rintro e w' ⟨rfl, rfl⟩
  go_wp2_with fail
  refine (p16.out _).mono ?_
  rintro e w' ⟨rfl, rfl⟩
  go_wp2
  go_ret2
  exact ⟨rfl, rfl⟩

set_option maxHeartbeats 1000000 in
theorem rpack_no (d a t : Int) (h : ¬ Keyed d a t) (w : World) :
    Calls Try.prog 10 #[.int .i64 d, .int .i64 a, .int .i64 t] w fun e w' => e = .returned (.tuple #[.int .u64 0, .bool false]) ∧ w = w' := by
  unfold Keyed at h
  go_enter Try.func10, Try.ntmps10
  go_wp2
  all_goals (go_ret2; exact ⟨rfl, rfl⟩)


theorem ret_ints3 {a b c a' b' c' : Int} (h : a = a') (h' : b = b') (h'' : c = c') : Ending.returned (.tuple #[.int .i64 a, .int .i64 b, .int .i64 c]) = .returned (.tuple #[.int .i64 a', .int .i64 b', .int .i64 c']) := by rw [h, h', h'']

theorem unpack_k1 (x : Nat) : wrap64 (IntKind.u64.wrap ((x : Int) * 16777216) / 1099511627776) = (x : Int) / 65536 % 16777216 := by
  rw [IntKind.wrap_u64]
  unfold wrap64
  omega

theorem unpack_k2 (x : Nat) : wrap64 (IntKind.u16.wrap (x : Int)) = (x : Int) % 65536 := by
  have e : IntKind.u16.wrap (x : Int) = (x : Int) % 65536 := by simp [IntKind.wrap, IntKind.bits, IntKind.signed]
  rw [e]
  unfold wrap64
  omega

set_option maxHeartbeats 1000000 in
theorem runpack_any (x : Nat) (hx : x < 18446744073709551616) (w : World) :
    Calls Try.prog 14 #[.int .u64 (x : Int)] w fun e w' => ∃ n, e = .returned (.tuple #[.int .i64 ((x : Int) / 1099511627776), .int .i64 ((x : Int) / 65536 % 16777216), .int .i64 ((x : Int) % 65536)]) ∧ w' = w.drewN n := by
  have p40 : Hid (∀ w, Calls Try.prog 24 #[.int .i64 40] w fun e w' => e = .returned (.int .u64 1099511627776) ∧ w' = w) := Lib.hid (fun w => (power_any 40 (by decide) w).mono fun e w' h => ⟨h.1, h.2.symm⟩)
  have p24 : Hid (∀ w, Calls Try.prog 24 #[.int .i64 24] w fun e w' => e = .returned (.int .u64 16777216) ∧ w' = w) := Lib.hid (fun w => (power_any 24 (by decide) w).mono fun e w' h => ⟨h.1, h.2.symm⟩)
  have p16 : Hid (∀ w, Calls Try.prog 24 #[.int .i64 16] w fun e w' => e = .returned (.int .u64 65536) ∧ w' = w) := Lib.hid (fun w => (power_any 16 (by decide) w).mono fun e w' h => ⟨h.1, h.2.symm⟩)
  go_enter Try.func14, Try.ntmps14
  go_wp2
  go_quiet ((first | (go_at_call 24; with_reducible exact Calls.quiet_of_same (p40.out _)) | (go_at_call 24; with_reducible exact Calls.quiet_of_same (p24.out _)) | (go_at_call 24; with_reducible exact Calls.quiet_of_same (p16.out _))))
  go_wp2
  go_ret3
  exact ⟨nq, rfl, rfl⟩

end Go.Proofs.Ytanbjdlaolgepaa
