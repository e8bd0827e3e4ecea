/-
  Plain arithmetic on words, with no Go in sight: bits of a natural number below 2^64, their least, greatest, n-th and number; spans; the parallel count; packed keys.
  The contracts of the reference's words (workstealref01): Bit.
  Package thief: the lines of Steal. (Written by wip/gen_own.py.)
-/
import Derived.Laws.Bits64b
import Derived.Lib.TrailingZeros
import Derived.Lib.BitFns
import Derived.Test.YtllllbepnnpeeaaMgAT
import Derived.WalkSpells
import Derived.Lib.Hide
import Derived.Deep.QuietTactic
import Derived.BigQuiet
import Derived.Outline
import Derived.Test.YtllllbepnnpeeaaMgAC
namespace Go.Proofs.Ytllllbepnnpeeaa
open Go

/-- Whether bit i is 1, behind a name that no tactic opens. -/
def bitB (x i : Nat) : Bool := x.testBit i

theorem bitB_quo (x i : Nat) : (x / 2 ^ i % 2 == 1) = bitB x i := by
  unfold bitB
  rw [Nat.testBit_eq_decide_div_mod_eq]
  by_cases h : x / 2 ^ i % 2 = 1 <;> simp [h]

/-- The n-th bit that is 1 among the last f ones (bits 64 - f to 63). -/
def nthF (x : Nat) : Nat → Int → Int
  | 0, _ => -1
  | f + 1, n => if bitB x (63 - f) = true then (if n = 0 then ((63 - f : Nat) : Int) else nthF x f (n - 1)) else nthF x f n

def nthS (x : Nat) (n : Int) : Int := if n < 0 then -1 else nthF x 64 n

/-- The number of bits below k that are 1. -/
def cntF (x : Nat) : Nat → Nat
  | 0 => 0
  | k + 1 => cntF x k + (if bitB x k = true then 1 else 0)

def cntS (x : Nat) : Int := (cntF x 64 : Nat)

def hiS (x : Nat) : Int := (Lib.bitLen x : Int) - 1

def loS (x : Nat) : Int := if x = 0 then -1 else (Lib.ctz 64 x : Nat)

/-- The sum of the powers of 2 from lo to hi - 1, below k. -/
def spF (lo hi : Int) : Nat → Nat
  | 0 => 0
  | k + 1 => spF lo hi k + (if lo ≤ (k : Int) ∧ (k : Int) < hi then 2 ^ k else 0)

def spanS (lo hi : Int) : Nat := spF lo hi 64

theorem cntF_le (x : Nat) : ∀ k, cntF x k ≤ k
  | 0 => Nat.le_refl _
  | k + 1 => by
    have := cntF_le x k
    unfold cntF
    split <;> omega

theorem bitB_ge (x i : Nat) (h : x < 2 ^ i) : bitB x i = false := Nat.testBit_lt_two_pow h

theorem bitB_ge64 (x i : Nat) (h : x < 18446744073709551616) (hi : 64 ≤ i) : bitB x i = false :=
  bitB_ge x i (Nat.lt_of_lt_of_le (show x < 2 ^ 64 from h) (Nat.pow_le_pow_right (by decide) hi))

theorem bitB_zero (i : Nat) : bitB 0 i = false := Nat.zero_testBit i

theorem nthF_bounds (x : Nat) : ∀ f n, f ≤ 64 → -1 ≤ nthF x f n ∧ nthF x f n ≤ 63
  | 0, n, _ => by simp [nthF]
  | f + 1, n, h => by
    have a := nthF_bounds x f n (by omega)
    have b := nthF_bounds x f (n - 1) (by omega)
    unfold nthF
    split
    · split
      · omega
      · exact b
    · exact a

/-! ### The greatest bit -/
theorem bitLen_bit (x i : Nat) (hx : x < 18446744073709551616) (hi : i < 64) (hb : bitB x i = true) (hz : ∀ j, i < j → j < 64 → bitB x j = false) : Lib.bitLen x = i + 1 := by
  have h1 : 2 ^ i ≤ x := Nat.ge_two_pow_of_testBit hb
  have h2 : x < 2 ^ (i + 1) := by
    apply Nat.lt_pow_two_of_testBit
    intro j hj
    by_cases h : j < 64
    · exact hz j (by omega) h
    · exact bitB_ge64 x j hx (by omega)
  have a := Lib.bitLen_le x (i + 1) (by omega) h2
  have b := Lib.bitLen_shift i x h1 hx
  have c : x / 2 ^ i ≠ 0 := by
    have := Nat.div_pos h1 (Nat.two_pow_pos i)
    omega
  have d : Lib.bitLen (x / 2 ^ i) = 1 + Lib.bitLen (x / 2 ^ i / 2) := Lib.bitLen_half _ c (Nat.lt_of_le_of_lt (Nat.div_le_self _ _) hx)
  omega

theorem bitLen_none (x : Nat) (hx : x < 18446744073709551616) (hz : ∀ j, j < 64 → bitB x j = false) : Lib.bitLen x = 0 := by
  have : x < 2 ^ 0 := by
    apply Nat.lt_pow_two_of_testBit
    intro j _
    by_cases h : j < 64
    · exact hz j h
    · exact bitB_ge64 x j hx (by omega)
  have := Lib.bitLen_le x 0 (by omega) this
  omega

/-! ### The least bit -/
theorem ctz_spec (x : Nat) (h0 : x ≠ 0) (hx : x < 18446744073709551616) : bitB x (Lib.ctz 64 x) = true ∧ (∀ j, j < Lib.ctz 64 x → bitB x j = false) ∧ Lib.ctz 64 x < 64 := by
  have e : Lib.ctz 64 x = Lib.ctzFrom 64 x := by simp [Lib.ctz, h0]
  rw [e]
  obtain ⟨m, hm, hk⟩ := Lib.ctzFrom_spec 64 x (by omega) hx
  clear e
  generalize Lib.ctzFrom 64 x = k at hm hk ⊢
  subst hm
  unfold bitB
  refine ⟨?_, ?_, hk⟩
  · rw [Nat.mul_comm, Nat.testBit_mul_two_pow]
    simp [Nat.testBit_zero]
  · intro j hj
    rw [Nat.mul_comm, Nat.testBit_mul_two_pow]
    simp; omega

theorem nthF_skip (x c : Nat) (hz : ∀ j, j < c → bitB x j = false) : ∀ f, 64 - f ≤ c → f ≤ 64 → ∀ n, nthF x f n = nthF x (64 - c) n
  | 0, h, _, n => by
    have : 64 - c = 0 := by omega
    rw [this]
  | f + 1, h, hf, n => by
    by_cases e : 64 - c = f + 1
    · rw [e]
    · have hb : bitB x (63 - f) = false := hz _ (by omega)
      rw [nthF, if_neg (by rw [hb]; decide)]
      exact nthF_skip x c hz f (by omega) (by omega) n

theorem nth_zero_low (x : Nat) (hx : x < 18446744073709551616) : nthF x 64 0 = loS x := by
  unfold loS
  by_cases h0 : x = 0
  · subst h0
    rw [if_pos rfl]
    rw [nthF_skip 0 64 (fun j _ => bitB_zero j) 64 (by omega) (by omega)]
    rfl
  · obtain ⟨h1, h2, h3⟩ := ctz_spec x h0 hx
    rw [if_neg h0, nthF_skip x _ h2 64 (by omega) (by omega)]
    obtain ⟨f, hf⟩ : ∃ f, 64 - Lib.ctz 64 x = f + 1 := ⟨63 - Lib.ctz 64 x, by omega⟩
    have hc : 63 - f = Lib.ctz 64 x := by omega
    rw [hf, nthF, hc, if_pos h1, if_pos rfl]

/-! ### Spans -/
theorem spF_lt (lo hi : Int) : ∀ k, spF lo hi k < 2 ^ k
  | 0 => by simp [spF]
  | k + 1 => by
    have := spF_lt lo hi k
    rw [spF, Nat.pow_succ]
    split <;> omega

theorem spF_bit (lo hi : Int) (j : Nat) : ∀ k, bitB (spF lo hi k) j = decide (j < k ∧ lo ≤ (j : Int) ∧ (j : Int) < hi)
  | 0 => by simp [spF, bitB]
  | k + 1 => by
    have ih := spF_bit lo hi j k
    have hl := spF_lt lo hi k
    rw [spF]
    by_cases hc : lo ≤ (k : Int) ∧ (k : Int) < hi
    · rw [if_pos hc]
      unfold bitB at *
      by_cases hj : j = k
      · subst hj
        rw [Nat.add_comm, Nat.testBit_two_pow_add_eq, Nat.testBit_lt_two_pow hl]
        simp [hc]
      · by_cases hjk : j < k
        · rw [Nat.add_comm, Nat.testBit_two_pow_add_gt hjk, ih]
          simp [hjk]; intros; omega
        · have : spF lo hi k + 2 ^ k < 2 ^ j := by
            have : (2 : Nat) ^ (k + 1) ≤ 2 ^ j := Nat.pow_le_pow_right (by decide) (by omega)
            rw [Nat.pow_succ] at this
            omega
          rw [Nat.testBit_lt_two_pow this]
          simp; omega
    · rw [if_neg hc, Nat.add_zero, ih]
      by_cases hj : j = k
      · subst hj
        simp only [Nat.lt_irrefl, false_and, decide_false]
        simp only [Nat.lt_add_one, true_and]
        simp [hc]
      · rw [Bool.eq_iff_iff]
        simp only [decide_eq_true_eq]
        omega

/-- n, brought between 0 and 64. -/
def clamp (n : Int) : Nat := min n.toNat 64

theorem below_bit (c j : Nat) : bitB (2 ^ c - 1) j = decide (j < c) := by
  unfold bitB
  rw [Nat.testBit_two_pow_sub_one]

theorem eq_of_bits (x y : Nat) (h : ∀ j, bitB x j = bitB y j) : x = y := Nat.eq_of_testBit_eq h

theorem andNot_bit (a b j : Nat) (hj : j < 64) : bitB (a &&& (18446744073709551615 - b % 18446744073709551616)) j = (bitB a j && !bitB b j) := by
  unfold bitB
  rw [Nat.testBit_and]
  have e : 18446744073709551615 - b % 18446744073709551616 = 2 ^ 64 - (b % 18446744073709551616 + 1) := by omega
  rw [e, Nat.testBit_two_pow_sub_succ (Nat.mod_lt _ (by decide))]
  have : (b % 18446744073709551616).testBit j = b.testBit j := by
    rw [show (18446744073709551616 : Nat) = 2 ^ 64 from rfl, Nat.testBit_mod_two_pow]
    simp [hj]
  rw [this]
  simp [hj]

theorem span_of_below (lo hi : Int) : (2 ^ clamp hi - 1) &&& (18446744073709551615 - (2 ^ clamp lo - 1) % 18446744073709551616) = spanS lo hi := by
  apply eq_of_bits
  intro j
  unfold spanS
  rw [spF_bit]
  by_cases hj : j < 64
  · rw [andNot_bit _ _ _ hj, below_bit, below_bit]
    unfold clamp
    rw [Bool.eq_iff_iff]
    simp
    omega
  · have h1 : bitB ((2 ^ clamp hi - 1) &&& (18446744073709551615 - (2 ^ clamp lo - 1) % 18446744073709551616)) j = false := by
      unfold bitB
      rw [Nat.testBit_and]
      have := below_bit (clamp hi) j
      unfold bitB at this
      rw [this]
      have : ¬ j < clamp hi := by unfold clamp; omega
      simp [this]
    rw [h1]
    simp; omega

theorem spanS_lt (lo hi : Int) : spanS lo hi < 18446744073709551616 := spF_lt lo hi 64

theorem spanS_bit (lo hi : Int) (j : Nat) : bitB (spanS lo hi) j = decide (j < 64 ∧ lo ≤ (j : Int) ∧ (j : Int) < hi) := spF_bit lo hi j 64

end Go.Proofs.Ytllllbepnnpeeaa

namespace Go.Proofs.Ytllllbepnnpeeaa
open Go Go.RowKit

theorem bit_walk (x i p : Nat) (hx : x < 18446744073709551616) (hp : p = 2 ^ i) : ((IntKind.u64.wrap ((x : Int) / (p : Int))).tmod 2 == 1) = bitB x i := by
  have h0 : x / p ≤ x := Nat.div_le_self _ _
  have e : IntKind.u64.wrap ((x : Int) / (p : Int)) = ((x / p : Nat) : Int) := by
    rw [IntKind.wrap_u64, ← Int.natCast_ediv]
    generalize x / p = q at h0 ⊢
    omega
  rw [e, ← bitB_quo, hp]
  generalize x / 2 ^ i = q
  have e2 : ((q : Int)).tmod 2 = ((q % 2 : Nat) : Int) := by
    rw [Int.tmod_eq_emod_of_nonneg (by omega)]
    omega
  rw [e2, Bool.eq_iff_iff]
  simp
  omega

set_option maxHeartbeats 400000 in
theorem bit_any (x i : Nat) (hx : x < 18446744073709551616) (hi : i < 64) (w : World) :
    Calls Try.prog 28 #[.int .u64 (x : Int), .int .i64 (i : Int)] w fun e w' => e = .returned (.bool (bitB x i)) ∧ w = w' := by
  have hp := power_any i hi w
  have h0 : 0 < 2 ^ i := Nat.two_pow_pos _
  have key := bit_walk x i _ hx rfl
  generalize 2 ^ i = p at hp h0 key
  have HP := Lib.hid hp
  clear hp
  have hz : ((p : Int) == 0) = false := by simp; omega
  generalize bitB x i = b at key ⊢
  go_enter Try.func28, Try.ntmps28
  go_wp2_with (go_at_call 50; refine HP.out.mono ?_; rintro e w' ⟨rfl, rfl⟩)
  go_ret
  exact ⟨rfl, rfl⟩

end Go.Proofs.Ytllllbepnnpeeaa

namespace Go.Proofs.Ytllllbepnnpeeaa
open Go Go.RowKit Go.Shelf
set_option linter.unusedSimpArgs false
set_option linter.unusedVariables false

section
variable {w : World} {p m k g cap : Nat} {s : St} {t d : Int} {hd : List Value} {rv ev : Value} {q : Nat} {f : Fra}

theorem i64_wrap64 (x : Int) : IntKind.i64.wrap x = wrap64 x := by
  rw [IntKind.wrap_i64]
  unfold wrap64
  omega
/-- What lies behind the shared cells is stored anew. -/
theorem OB.nine {w : World} {q : Nat} {ty : TypeId} {u v : Value} {f : Fra} {cd vl : Int} (h : OB w q ty [u] f cd vl) (y : Int) : OB (w.setCell ⟨q, 9, none⟩ v) q ty [v] { f with fw := y } cd vl := by
  refine ⟨?_, h.t1, h.t2, h.t3, h.t4⟩
  have hb := h.blk.put 9 v
  rw [List.setIfInBounds_toArray, List.set_append_right _ _ (by simp)] at hb
  exact hb

set_option maxRecDepth 100000 in
set_option maxHeartbeats 2000000 in
theorem stealer_1 (hp : PE w p m k g cap s t d hd rv ev) (h : OB w q 141 [.int .u64 f.fw] f 0 0) (hl : f.ln = 1) :
    Calls Try.prog 122 #[.pointer (some ⟨q, 0, none⟩), .pointer (some ⟨p, 0, none⟩)] w (PStepped w p m k g cap (s.go 1 f.qt id) t d hd rv ev q 141 [.int .u64 f.fw] { f with fv := s.old f.qt, ln := 2 } .none) := by
  have hqp : p ≠ q := (h.ne hp).1.symm
  have P0 := Lib.hid hp
  have B0 := Lib.hid h
  have F0 := Lib.hid (Fr.refl [m, g, q] w)
  clear hp h
  have hc0 := oline_any B0.out
  rw [hl] at hc0
  have HC0 := Lib.hid hc0
  clear hc0
  go_enter Try.func122, Try.ntmps122
  go_wp2_with fail
  (with_reducible refine HC0.out.mono ?_)
  rintro e wx ⟨rfl, rfl⟩
  clear HC0
  go_wp2_with fail
  (with_reducible refine (oloadTop_any P0.out B0.out).mono ?_)
  rintro e W1 ⟨rfl, hp, hb, hf⟩
  have P1 := Lib.hid hp
  have B1 := Lib.hid hb
  have F1 := Lib.hid (F0.out.trans hf)
  clear hp hb hf
  clear P0 B0 F0
  go_wp2_with fail
  (with_reducible refine (onext_any B1.out 2).mono ?_)
  rintro e W2 ⟨rfl, hb, hf⟩
  have P2 := Lib.hid (P1.out.own B1.out hf)
  have B2 := Lib.hid hb
  have F2 := Lib.hid (F1.out.trans (hf.mono (by simp)))
  clear hb hf
  clear P1 B1 F1
  go_wp2
  go_ret
  exact ⟨rfl, P2.out, B2.out, F2.out⟩
set_option maxRecDepth 100000 in
set_option maxHeartbeats 2000000 in
theorem stealer_2e (hp : PE w p m k g cap s t d hd rv ev) (h : OB w q 141 [.int .u64 f.fw] f 0 0) (hl : f.ln = 2) (hc : sizeI (s.old f.qb) f.fv ≤ 0) :
    Calls Try.prog 122 #[.pointer (some ⟨q, 0, none⟩), .pointer (some ⟨p, 0, none⟩)] w (PStepped w p m k g cap (s.go 1 f.qb id) t d hd rv ev q 141 [.int .u64 f.fw] { f with fu := s.old f.qb } ⟨true, 2, 0⟩) := by
  have hqp : p ≠ q := (h.ne hp).1.symm
  have P0 := Lib.hid hp
  have B0 := Lib.hid h
  have F0 := Lib.hid (Fr.refl [m, g, q] w)
  clear hp h
  have hc0 := oline_any B0.out
  rw [hl] at hc0
  have HC0 := Lib.hid hc0
  clear hc0
  go_enter Try.func122, Try.ntmps122
  go_wp2_with fail
  (with_reducible refine HC0.out.mono ?_)
  rintro e wx ⟨rfl, rfl⟩
  clear HC0
  have hcb : decide (sizeI (s.old f.qb) f.fv ≤ 0) = true := by simpa using hc
  go_wp2_with fail
  (with_reducible refine (oloadBottom_any P0.out B0.out).mono ?_)
  rintro e W1 ⟨rfl, hp, hb, hf⟩
  have P1 := Lib.hid hp
  have B1 := Lib.hid hb
  have F1 := Lib.hid (F0.out.trans hf)
  clear hp hb hf
  clear P0 B0 F0
  go_wp2_with fail
  have c7 : W1.cell? ⟨q, 7, none⟩ = some (.int .u64 (s.old f.qb)) := B1.out.at_ 7 (by omega)
  have hq := fun (n : Nat) => (osize_any (B1.out.drewN n) (s.old f.qb)).mono (fun e w' (h : e = .returned (.int .i64 (sizeI (s.old f.qb) (f.fv))) ∧ _ = w') => (⟨h.1, h.2.symm⟩ : e = .returned (.int .i64 (sizeI (s.old f.qb) (f.fv))) ∧ w' = _))
  go_quiet ((go_at_call 113; exact Calls.quiet_of_same (hq _)))
  have P2 := Lib.hid (P1.out.drewN nq)
  have B2 := Lib.hid (B1.out.drewN nq)
  have F2 := Lib.hid (F1.out.drewN nq)
  clear c7
  clear hq
  generalize W1.drewN nq = W2 at *
  clear P1 B1 F1
  go_wp2_with fail
  (with_reducible refine (oend_any B2.out 2 0).mono ?_)
  rintro e W3 ⟨rfl, hb, hf⟩
  have P3 := Lib.hid (P2.out.own B2.out hf)
  have B3 := Lib.hid hb
  have F3 := Lib.hid (F2.out.trans (hf.mono (by simp)))
  clear hb hf
  clear P2 B2 F2
  go_wp2
  go_ret
  exact ⟨rfl, P3.out, B3.out, F3.out⟩
set_option maxRecDepth 100000 in
set_option maxHeartbeats 2000000 in
theorem stealer_2 (hp : PE w p m k g cap s t d hd rv ev) (h : OB w q 141 [.int .u64 f.fw] f 0 0) (hl : f.ln = 2) (hc : ¬ sizeI (s.old f.qb) f.fv ≤ 0) :
    Calls Try.prog 122 #[.pointer (some ⟨q, 0, none⟩), .pointer (some ⟨p, 0, none⟩)] w (PStepped w p m k g cap (s.go 1 f.qb id) t d hd rv ev q 141 [.int .u64 f.fw] { f with fu := s.old f.qb, ln := 3 } .none) := by
  have hqp : p ≠ q := (h.ne hp).1.symm
  have P0 := Lib.hid hp
  have B0 := Lib.hid h
  have F0 := Lib.hid (Fr.refl [m, g, q] w)
  clear hp h
  have hc0 := oline_any B0.out
  rw [hl] at hc0
  have HC0 := Lib.hid hc0
  clear hc0
  go_enter Try.func122, Try.ntmps122
  go_wp2_with fail
  (with_reducible refine HC0.out.mono ?_)
  rintro e wx ⟨rfl, rfl⟩
  clear HC0
  have hcb : decide (sizeI (s.old f.qb) f.fv ≤ 0) = false := by simpa using hc
  go_wp2_with fail
  (with_reducible refine (oloadBottom_any P0.out B0.out).mono ?_)
  rintro e W1 ⟨rfl, hp, hb, hf⟩
  have P1 := Lib.hid hp
  have B1 := Lib.hid hb
  have F1 := Lib.hid (F0.out.trans hf)
  clear hp hb hf
  clear P0 B0 F0
  go_wp2_with fail
  have c7 : W1.cell? ⟨q, 7, none⟩ = some (.int .u64 (s.old f.qb)) := B1.out.at_ 7 (by omega)
  have hq := fun (n : Nat) => (osize_any (B1.out.drewN n) (s.old f.qb)).mono (fun e w' (h : e = .returned (.int .i64 (sizeI (s.old f.qb) (f.fv))) ∧ _ = w') => (⟨h.1, h.2.symm⟩ : e = .returned (.int .i64 (sizeI (s.old f.qb) (f.fv))) ∧ w' = _))
  go_quiet ((go_at_call 113; exact Calls.quiet_of_same (hq _)))
  have P2 := Lib.hid (P1.out.drewN nq)
  have B2 := Lib.hid (B1.out.drewN nq)
  have F2 := Lib.hid (F1.out.drewN nq)
  clear c7
  clear hq
  generalize W1.drewN nq = W2 at *
  clear P1 B1 F1
  go_wp2_with fail
  (with_reducible refine (onext_any B2.out 3).mono ?_)
  rintro e W3 ⟨rfl, hb, hf⟩
  have P3 := Lib.hid (P2.out.own B2.out hf)
  have B3 := Lib.hid hb
  have F3 := Lib.hid (F2.out.trans (hf.mono (by simp)))
  clear hb hf
  clear P2 B2 F2
  go_wp2
  go_ret
  exact ⟨rfl, P3.out, B3.out, F3.out⟩
set_option maxRecDepth 100000 in
set_option maxHeartbeats 2000000 in
theorem stealer_3 (hp : PE w p m k g cap s t d hd rv ev) (h : OB w q 141 [.int .u64 f.fw] f 0 0) (hl : f.ln = 3) (hv : 0 ≤ f.fv) (hqc : f.qc ≤ 9223372036854775807) :
    Calls Try.prog 122 #[.pointer (some ⟨q, 0, none⟩), .pointer (some ⟨p, 0, none⟩)] w (PStepped w p m k g cap (s.go 1 (ringI f.qr f.qc f.fv) id) t d hd rv ev q 141 [.int .u64 (s.old (ringI f.qr f.qc f.fv))] { f with fw := (s.old (ringI f.qr f.qc f.fv)), ln := 4 } .none) := by
  have hqp : p ≠ q := (h.ne hp).1.symm
  have P0 := Lib.hid hp
  have B0 := Lib.hid h
  have F0 := Lib.hid (Fr.refl [m, g, q] w)
  clear hp h
  have hc0 := oline_any B0.out
  rw [hl] at hc0
  have HC0 := Lib.hid hc0
  clear hc0
  go_enter Try.func122, Try.ntmps122
  go_wp2_with fail
  (with_reducible refine HC0.out.mono ?_)
  rintro e wx ⟨rfl, rfl⟩
  clear HC0
  go_wp2_with fail
  have P1 := Lib.hid (P0.out.drewN 1)
  have B1 := Lib.hid B0.out.drew
  have F1 := Lib.hid F0.out.drew
  clear P0 B0 F0
  have d20 : w.drew.cell? ⟨p, 20, none⟩ = some (.pointer (some ⟨m, 0, none⟩)) := P1.out.at20
  have d8 : w.drew.cell? ⟨q, 8, none⟩ = some (.int .u64 f.fv) := B1.out.at_ 8 (by omega)
  go_region_held3 (fun w' => w'.cell? ⟨p, 20, none⟩ = some (.pointer (some ⟨m, 0, none⟩)) ∧ w'.cell? ⟨q, 8, none⟩ = some (.int .u64 f.fv)) ((first | exact ⟨e20, e8⟩ | exact ⟨b20, b8⟩ | exact ⟨a20, a8⟩ | exact ⟨d20, d8⟩ | go_keep))
    (first
      | (go_at_call 120
         refine (ocell_any B1.out _ hv hqc).mono ?_
         rintro e W2 ⟨rfl, hb⟩
         have P2 := Lib.hid (P1.out.below hb)
         have B2 := Lib.hid (B1.out.below hb)
         have F2 := Lib.hid (F1.out.trans (Fr.old hb))
         clear hb
         have a20 : W2.cell? ⟨p, 20, none⟩ = some (.pointer (some ⟨m, 0, none⟩)) := P2.out.at20
         have a8 : W2.cell? ⟨q, 8, none⟩ = some (.int .u64 f.fv) := B2.out.at_ 8 (by omega))
      | (go_at_call 115
         refine (load_any P2.out.mem _).mono ?_
         rintro e W3 ⟨rfl, hm, hf⟩
         have P3 := Lib.hid (P2.out.acc hm hf)
         have B3 := Lib.hid (B2.out.acc P2.out hf)
         have F3 := Lib.hid (F2.out.trans (hf.mono (by simp)))
         clear hm hf
         have b20 : W3.cell? ⟨p, 20, none⟩ = some (.pointer (some ⟨m, 0, none⟩)) := P3.out.at20
         have b8 : W3.cell? ⟨q, 8, none⟩ = some (.int .u64 f.fv) := B3.out.at_ 8 (by omega)
         have c9 : W3.cell? ⟨q, 9, none⟩ = some (.int .u64 f.fw) := B3.out.blk.at_ 9
         have f9 := B3.out.free 9
         have e20 : (W3.setCell ⟨q, 9, none⟩ (.int .u64 (s.old (ringI f.qr f.qc f.fv)))).cell? ⟨p, 20, none⟩ = some (.pointer (some ⟨m, 0, none⟩)) := by rw [World.cell?_setCell_other _ _ _ _ (by simp [hqp])]; exact b20
         have e8 : (W3.setCell ⟨q, 9, none⟩ (.int .u64 (s.old (ringI f.qr f.qc f.fv)))).cell? ⟨q, 8, none⟩ = some (.int .u64 f.fv) := by rw [World.cell?_setCell_other _ _ _ _ (by simp)]; exact b8))
  clear d20 d8 a20 a8 b20 b8 P1 B1 F1 P2 B2 F2
  clear c9 f9 e20 e8
  have hs : Fr [q] W3 (W3.setCell ⟨q, 9, none⟩ (.int .u64 (s.old (ringI f.qr f.qc f.fv)))) := (Fr.refl _ _).setCell (by simp) _
  have P4 := Lib.hid (P3.out.own B3.out hs)
  have B4 := Lib.hid (B3.out.nine (v := .int .u64 (s.old (ringI f.qr f.qc f.fv))) (s.old (ringI f.qr f.qc f.fv)))
  have F4 := Lib.hid (F3.out.trans (hs.mono (by simp)))
  clear hs P3 B3 F3
  generalize W3.setCell ⟨q, 9, none⟩ (.int .u64 (s.old (ringI f.qr f.qc f.fv))) = W4 at *
  go_wp2_with fail
  (with_reducible refine (onext_any B4.out 4).mono ?_)
  rintro e W5 ⟨rfl, hb, hf⟩
  have P5 := Lib.hid (P4.out.own B4.out hf)
  have B5 := Lib.hid hb
  have F5 := Lib.hid (F4.out.trans (hf.mono (by simp)))
  clear hb hf
  clear P4 B4 F4
  go_wp2
  go_ret
  exact ⟨rfl, P5.out, B5.out, F5.out⟩
set_option maxRecDepth 100000 in
set_option maxHeartbeats 2000000 in
theorem stealer_4t (hp : PE w p m k g cap s t d hd rv ev) (h : OB w q 141 [.int .u64 f.fw] f 0 0) (hl : f.ln = 4) (hh : s.hit f.qt f.fv = true) :
    Calls Try.prog 122 #[.pointer (some ⟨q, 0, none⟩), .pointer (some ⟨p, 0, none⟩)] w (PStepped w p m k g cap (s.go 3 f.qt (fun x => if x = f.fv then add1 f.fv else x)) t d hd rv ev q 141 [.int .u64 f.fw] f ⟨true, 1, IntKind.i64.wrap f.fw⟩) := by
  have hqp : p ≠ q := (h.ne hp).1.symm
  have P0 := Lib.hid hp
  have B0 := Lib.hid h
  have F0 := Lib.hid (Fr.refl [m, g, q] w)
  clear hp h
  have hc0 := oline_any B0.out
  rw [hl] at hc0
  have HC0 := Lib.hid hc0
  clear hc0
  go_enter Try.func122, Try.ntmps122
  go_wp2_with fail
  (with_reducible refine HC0.out.mono ?_)
  rintro e wx ⟨rfl, rfl⟩
  clear HC0
  have HH := Lib.hid hh
  clear hh
  go_wp2_with fail
  have P1 := Lib.hid (P0.out.drewN 1)
  have B1 := Lib.hid B0.out.drew
  have F1 := Lib.hid F0.out.drew
  clear P0 B0 F0
  have d20 : w.drew.cell? ⟨p, 20, none⟩ = some (.pointer (some ⟨m, 0, none⟩)) := P1.out.at20
  have d3 : w.drew.cell? ⟨q, 3, none⟩ = some (.int .i64 f.qt) := B1.out.at_ 3 (by omega)
  have d8 : w.drew.cell? ⟨q, 8, none⟩ = some (.int .u64 f.fv) := B1.out.at_ 8 (by omega)
  go_region_held3 (fun w' => w'.cell? ⟨p, 20, none⟩ = some (.pointer (some ⟨m, 0, none⟩)) ∧ w'.cell? ⟨q, 3, none⟩ = some (.int .i64 f.qt) ∧ w'.cell? ⟨q, 8, none⟩ = some (.int .u64 f.fv)) ((first | exact ⟨a20, a3, a8⟩ | exact ⟨d20, d3, d8⟩ | go_keep))
    ((go_at_call 123
      refine (cas_any P1.out.mem _ _ _).mono ?_
      rintro e W2 ⟨rfl, hm, hf⟩
      have P2 := Lib.hid (P1.out.acc hm hf)
      have B2 := Lib.hid (B1.out.acc P1.out hf)
      have F2 := Lib.hid (F1.out.trans (hf.mono (by simp)))
      clear hm hf
      have a20 : W2.cell? ⟨p, 20, none⟩ = some (.pointer (some ⟨m, 0, none⟩)) := P2.out.at20
      have a3 : W2.cell? ⟨q, 3, none⟩ = some (.int .i64 f.qt) := B2.out.at_ 3 (by omega)
      have a8 : W2.cell? ⟨q, 8, none⟩ = some (.int .u64 f.fv) := B2.out.at_ 8 (by omega)))
  clear d20 d3 d8 a20 a3 a8 P1 B1 F1
  rw [HH.out]
  go_wp2_with fail
  have P3 := Lib.hid (P2.out.drewN 1)
  have B3 := Lib.hid B2.out.drew
  have F3 := Lib.hid F2.out.drew
  clear P2 B2 F2
  have d9 : W2.drew.cell? ⟨q, 9, none⟩ = some (.int .u64 f.fw) := B3.out.blk.at_ 9
  go_region_held3 (fun w' => w'.cell? ⟨q, 9, none⟩ = some (.int .u64 f.fw)) ((first | exact a9 | exact d9 | go_keep))
    ((go_at_call 104
      refine (oend_any B3.out _ _).mono ?_
      rintro e W4 ⟨rfl, hb, hf⟩
      have P4 := Lib.hid (P3.out.own B3.out hf)
      have B4 := Lib.hid hb
      have F4 := Lib.hid (F3.out.trans (hf.mono (by simp)))
      clear hb hf
      have a9 : W4.cell? ⟨q, 9, none⟩ = some (.int .u64 f.fw) := B4.out.blk.at_ 9))
  clear d9 a9 P3 B3 F3
  go_wp2
  go_ret
  exact ⟨rfl, P4.out, B4.out, F4.out⟩
set_option maxRecDepth 100000 in
set_option maxHeartbeats 2000000 in
theorem stealer_4f (hp : PE w p m k g cap s t d hd rv ev) (h : OB w q 141 [.int .u64 f.fw] f 0 0) (hl : f.ln = 4) (hh : s.hit f.qt f.fv = false) :
    Calls Try.prog 122 #[.pointer (some ⟨q, 0, none⟩), .pointer (some ⟨p, 0, none⟩)] w (PStepped w p m k g cap (s.go 3 f.qt (fun x => if x = f.fv then add1 f.fv else x)) t d hd rv ev q 141 [.int .u64 f.fw] f ⟨true, 4, 0⟩) := by
  have hqp : p ≠ q := (h.ne hp).1.symm
  have P0 := Lib.hid hp
  have B0 := Lib.hid h
  have F0 := Lib.hid (Fr.refl [m, g, q] w)
  clear hp h
  have hc0 := oline_any B0.out
  rw [hl] at hc0
  have HC0 := Lib.hid hc0
  clear hc0
  go_enter Try.func122, Try.ntmps122
  go_wp2_with fail
  (with_reducible refine HC0.out.mono ?_)
  rintro e wx ⟨rfl, rfl⟩
  clear HC0
  have HH := Lib.hid hh
  clear hh
  go_wp2_with fail
  have P1 := Lib.hid (P0.out.drewN 1)
  have B1 := Lib.hid B0.out.drew
  have F1 := Lib.hid F0.out.drew
  clear P0 B0 F0
  have d20 : w.drew.cell? ⟨p, 20, none⟩ = some (.pointer (some ⟨m, 0, none⟩)) := P1.out.at20
  have d3 : w.drew.cell? ⟨q, 3, none⟩ = some (.int .i64 f.qt) := B1.out.at_ 3 (by omega)
  have d8 : w.drew.cell? ⟨q, 8, none⟩ = some (.int .u64 f.fv) := B1.out.at_ 8 (by omega)
  go_region_held3 (fun w' => w'.cell? ⟨p, 20, none⟩ = some (.pointer (some ⟨m, 0, none⟩)) ∧ w'.cell? ⟨q, 3, none⟩ = some (.int .i64 f.qt) ∧ w'.cell? ⟨q, 8, none⟩ = some (.int .u64 f.fv)) ((first | exact ⟨a20, a3, a8⟩ | exact ⟨d20, d3, d8⟩ | go_keep))
    ((go_at_call 123
      refine (cas_any P1.out.mem _ _ _).mono ?_
      rintro e W2 ⟨rfl, hm, hf⟩
      have P2 := Lib.hid (P1.out.acc hm hf)
      have B2 := Lib.hid (B1.out.acc P1.out hf)
      have F2 := Lib.hid (F1.out.trans (hf.mono (by simp)))
      clear hm hf
      have a20 : W2.cell? ⟨p, 20, none⟩ = some (.pointer (some ⟨m, 0, none⟩)) := P2.out.at20
      have a3 : W2.cell? ⟨q, 3, none⟩ = some (.int .i64 f.qt) := B2.out.at_ 3 (by omega)
      have a8 : W2.cell? ⟨q, 8, none⟩ = some (.int .u64 f.fv) := B2.out.at_ 8 (by omega)))
  clear d20 d3 d8 a20 a3 a8 P1 B1 F1
  rw [HH.out]
  go_wp2_with fail
  (with_reducible refine (oend_any B2.out 4 0).mono ?_)
  rintro e W3 ⟨rfl, hb, hf⟩
  have P3 := Lib.hid (P2.out.own B2.out hf)
  have B3 := Lib.hid hb
  have F3 := Lib.hid (F2.out.trans (hf.mono (by simp)))
  clear hb hf
  clear P2 B2 F2
  go_wp2
  go_ret
  exact ⟨rfl, P3.out, B3.out, F3.out⟩
set_option maxRecDepth 100000 in
/-- A stealer that is done. -/
theorem stealer_over {ty : TypeId} {post : List Value} {cd vl : Int} (h : OB w q ty post { f with ln := 0 } cd vl) (v : Value) :
    Calls Try.prog 122 #[.pointer (some ⟨q, 0, none⟩), v] w fun e w' => e = .returned (.bool true) ∧ w = w' := by
  have HC := Lib.hid (oline_any h)
  clear h
  go_enter Try.func122, Try.ntmps122
  go_wp2_with fail
  (with_reducible refine HC.out.mono ?_)
  rintro e wx ⟨rfl, rfl⟩
  go_wp2
  go_ret
  exact ⟨rfl, rfl⟩
theorem stealer_any (hp : PE w p m k g cap s t d hd rv ev) (h : OB w q 141 [.int .u64 f.fw] f 0 0) (hl : f.ln = 1 ∨ f.ln = 2 ∨ f.ln = 3 ∨ f.ln = 4) (hv : 0 ≤ f.fv) (hqc : f.qc ≤ 9223372036854775807) :
    Calls Try.prog 122 #[.pointer (some ⟨q, 0, none⟩), .pointer (some ⟨p, 0, none⟩)] w (PStepped w p m k g cap (stealS s f).1 t d hd rv ev q 141 [.int .u64 (stealS s f).2.1.fw] (stealS s f).2.1 (stealS s f).2.2) := by
  rcases hl with hl | hl | hl | hl
  · rw [stealS, if_pos hl]
    exact stealer_1 hp h hl
  · rw [stealS, if_neg (show ¬ f.ln = 1 by omega), if_pos hl]
    by_cases hc : sizeI (s.old f.qb) f.fv ≤ 0
    · rw [if_pos hc]
      exact stealer_2e hp h hl hc
    · rw [if_neg hc]
      exact stealer_2 hp h hl hc
  · rw [stealS, if_neg (show ¬ f.ln = 1 by omega), if_neg (show ¬ f.ln = 2 by omega), if_pos hl]
    exact stealer_3 hp h hl hv hqc
  · rw [stealS, if_neg (show ¬ f.ln = 1 by omega), if_neg (show ¬ f.ln = 2 by omega), if_neg (show ¬ f.ln = 3 by omega), ← i64_wrap64]
    cases hh : s.hit f.qt f.fv with
    | true => exact stealer_4t hp h hl hh
    | false => exact stealer_4f hp h hl hh
end
end Go.Proofs.Ytllllbepnnpeeaa
