/-
  Plain arithmetic on words, with no Go in sight: bits of a natural number below 2^64, their least, greatest, n-th and number; spans; the parallel count; packed keys.
  The contracts of math/bits.Len64 as this program holds it, and of words.High.
  Package levels: the first line of Pop.
  Plain mathematics: the steps of a machine until it is done. No function is named.
-/
import Derived.Laws.Bits64b
import Derived.Lib.TrailingZeros
import Derived.Lib.BitFns
import Derived.Test.YtgipddeldddbnaaGreatRows
import Derived.WalkKit
import Derived.WalkSpells
import Derived.WalkLawsBesides
import Derived.Shelf.Strconv.Itoa0
import Derived.Test.YtgipddeldddbnaaGreatLvS
import Derived.Test.YtgipddeldddbnaaGreatMgAB
namespace Go.Proofs.YtgipddeldddbnaaGreat
open Go

/-- Whether bit i is 1, behind a name that no tactic opens. -/
def bitB (x i : Nat) : Bool := x.testBit i

theorem bitB_quo (x i : Nat) : (x / 2 ^ i % 2 == 1) = bitB x i := by
  unfold bitB
  rw [Nat.testBit_eq_decide_div_mod_eq]
  by_cases h : x / 2 ^ i % 2 = 1 <;> simp [h]

/-- The n-th bit that is 1 among the last f ones (bits 64 - f to 63). -/
def nthF (x : Nat) : Nat → Int → Int
  | 0, _ => -1
  | f + 1, n => if bitB x (63 - f) = true then (if n = 0 then ((63 - f : Nat) : Int) else nthF x f (n - 1)) else nthF x f n

def nthS (x : Nat) (n : Int) : Int := if n < 0 then -1 else nthF x 64 n

/-- The number of bits below k that are 1. -/
def cntF (x : Nat) : Nat → Nat
  | 0 => 0
  | k + 1 => cntF x k + (if bitB x k = true then 1 else 0)

def cntS (x : Nat) : Int := (cntF x 64 : Nat)

def hiS (x : Nat) : Int := (Lib.bitLen x : Int) - 1

def loS (x : Nat) : Int := if x = 0 then -1 else (Lib.ctz 64 x : Nat)

/-- The sum of the powers of 2 from lo to hi - 1, below k. -/
def spF (lo hi : Int) : Nat → Nat
  | 0 => 0
  | k + 1 => spF lo hi k + (if lo ≤ (k : Int) ∧ (k : Int) < hi then 2 ^ k else 0)

def spanS (lo hi : Int) : Nat := spF lo hi 64

theorem cntF_le (x : Nat) : ∀ k, cntF x k ≤ k
  | 0 => Nat.le_refl _
  | k + 1 => by
    have := cntF_le x k
    unfold cntF
    split <;> omega

theorem bitB_ge (x i : Nat) (h : x < 2 ^ i) : bitB x i = false := Nat.testBit_lt_two_pow h

theorem bitB_ge64 (x i : Nat) (h : x < 18446744073709551616) (hi : 64 ≤ i) : bitB x i = false :=
  bitB_ge x i (Nat.lt_of_lt_of_le (show x < 2 ^ 64 from h) (Nat.pow_le_pow_right (by decide) hi))

theorem bitB_zero (i : Nat) : bitB 0 i = false := Nat.zero_testBit i

theorem nthF_bounds (x : Nat) : ∀ f n, f ≤ 64 → -1 ≤ nthF x f n ∧ nthF x f n ≤ 63
  | 0, n, _ => by simp [nthF]
  | f + 1, n, h => by
    have a := nthF_bounds x f n (by omega)
    have b := nthF_bounds x f (n - 1) (by omega)
    unfold nthF
    split
    · split
      · omega
      · exact b
    · exact a

/-! ### The greatest bit -/
theorem bitLen_bit (x i : Nat) (hx : x < 18446744073709551616) (hi : i < 64) (hb : bitB x i = true) (hz : ∀ j, i < j → j < 64 → bitB x j = false) : Lib.bitLen x = i + 1 := by
  have h1 : 2 ^ i ≤ x := Nat.ge_two_pow_of_testBit hb
  have h2 : x < 2 ^ (i + 1) := by
    apply Nat.lt_pow_two_of_testBit
    intro j hj
    by_cases h : j < 64
    · exact hz j (by omega) h
    · exact bitB_ge64 x j hx (by omega)
  have a := Lib.bitLen_le x (i + 1) (by omega) h2
  have b := Lib.bitLen_shift i x h1 hx
  have c : x / 2 ^ i ≠ 0 := by
    have := Nat.div_pos h1 (Nat.two_pow_pos i)
    omega
  have d : Lib.bitLen (x / 2 ^ i) = 1 + Lib.bitLen (x / 2 ^ i / 2) := Lib.bitLen_half _ c (Nat.lt_of_le_of_lt (Nat.div_le_self _ _) hx)
  omega

theorem bitLen_none (x : Nat) (hx : x < 18446744073709551616) (hz : ∀ j, j < 64 → bitB x j = false) : Lib.bitLen x = 0 := by
  have : x < 2 ^ 0 := by
    apply Nat.lt_pow_two_of_testBit
    intro j _
    by_cases h : j < 64
    · exact hz j h
    · exact bitB_ge64 x j hx (by omega)
  have := Lib.bitLen_le x 0 (by omega) this
  omega

/-! ### The least bit -/
theorem ctz_spec (x : Nat) (h0 : x ≠ 0) (hx : x < 18446744073709551616) : bitB x (Lib.ctz 64 x) = true ∧ (∀ j, j < Lib.ctz 64 x → bitB x j = false) ∧ Lib.ctz 64 x < 64 := by
  have e : Lib.ctz 64 x = Lib.ctzFrom 64 x := by simp [Lib.ctz, h0]
  rw [e]
  obtain ⟨m, hm, hk⟩ := Lib.ctzFrom_spec 64 x (by omega) hx
  clear e
  generalize Lib.ctzFrom 64 x = k at hm hk ⊢
  subst hm
  unfold bitB
  refine ⟨?_, ?_, hk⟩
  · rw [Nat.mul_comm, Nat.testBit_mul_two_pow]
    simp [Nat.testBit_zero]
  · intro j hj
    rw [Nat.mul_comm, Nat.testBit_mul_two_pow]
    simp; omega

theorem nthF_skip (x c : Nat) (hz : ∀ j, j < c → bitB x j = false) : ∀ f, 64 - f ≤ c → f ≤ 64 → ∀ n, nthF x f n = nthF x (64 - c) n
  | 0, h, _, n => by
    have : 64 - c = 0 := by omega
    rw [this]
  | f + 1, h, hf, n => by
    by_cases e : 64 - c = f + 1
    · rw [e]
    · have hb : bitB x (63 - f) = false := hz _ (by omega)
      rw [nthF, if_neg (by rw [hb]; decide)]
      exact nthF_skip x c hz f (by omega) (by omega) n

theorem nth_zero_low (x : Nat) (hx : x < 18446744073709551616) : nthF x 64 0 = loS x := by
  unfold loS
  by_cases h0 : x = 0
  · subst h0
    rw [if_pos rfl]
    rw [nthF_skip 0 64 (fun j _ => bitB_zero j) 64 (by omega) (by omega)]
    rfl
  · obtain ⟨h1, h2, h3⟩ := ctz_spec x h0 hx
    rw [if_neg h0, nthF_skip x _ h2 64 (by omega) (by omega)]
    obtain ⟨f, hf⟩ : ∃ f, 64 - Lib.ctz 64 x = f + 1 := ⟨63 - Lib.ctz 64 x, by omega⟩
    have hc : 63 - f = Lib.ctz 64 x := by omega
    rw [hf, nthF, hc, if_pos h1, if_pos rfl]

/-! ### Spans -/
theorem spF_lt (lo hi : Int) : ∀ k, spF lo hi k < 2 ^ k
  | 0 => by simp [spF]
  | k + 1 => by
    have := spF_lt lo hi k
    rw [spF, Nat.pow_succ]
    split <;> omega

theorem spF_bit (lo hi : Int) (j : Nat) : ∀ k, bitB (spF lo hi k) j = decide (j < k ∧ lo ≤ (j : Int) ∧ (j : Int) < hi)
  | 0 => by simp [spF, bitB]
  | k + 1 => by
    have ih := spF_bit lo hi j k
    have hl := spF_lt lo hi k
    rw [spF]
    by_cases hc : lo ≤ (k : Int) ∧ (k : Int) < hi
    · rw [if_pos hc]
      unfold bitB at *
      by_cases hj : j = k
      · subst hj
        rw [Nat.add_comm, Nat.testBit_two_pow_add_eq, Nat.testBit_lt_two_pow hl]
        simp [hc]
      · by_cases hjk : j < k
        · rw [Nat.add_comm, Nat.testBit_two_pow_add_gt hjk, ih]
          simp [hjk]; intros; omega
        · have : spF lo hi k + 2 ^ k < 2 ^ j := by
            have : (2 : Nat) ^ (k + 1) ≤ 2 ^ j := Nat.pow_le_pow_right (by decide) (by omega)
            rw [Nat.pow_succ] at this
            omega
          rw [Nat.testBit_lt_two_pow this]
          simp; omega
    · rw [if_neg hc, Nat.add_zero, ih]
      by_cases hj : j = k
      · subst hj
        simp only [Nat.lt_irrefl, false_and, decide_false]
        simp only [Nat.lt_add_one, true_and]
        simp [hc]
      · rw [Bool.eq_iff_iff]
        simp only [decide_eq_true_eq]
        omega

/-- n, brought between 0 and 64. -/
def clamp (n : Int) : Nat := min n.toNat 64

theorem below_bit (c j : Nat) : bitB (2 ^ c - 1) j = decide (j < c) := by
  unfold bitB
  rw [Nat.testBit_two_pow_sub_one]

theorem eq_of_bits (x y : Nat) (h : ∀ j, bitB x j = bitB y j) : x = y := Nat.eq_of_testBit_eq h

theorem andNot_bit (a b j : Nat) (hj : j < 64) : bitB (a &&& (18446744073709551615 - b % 18446744073709551616)) j = (bitB a j && !bitB b j) := by
  unfold bitB
  rw [Nat.testBit_and]
  have e : 18446744073709551615 - b % 18446744073709551616 = 2 ^ 64 - (b % 18446744073709551616 + 1) := by omega
  rw [e, Nat.testBit_two_pow_sub_succ (Nat.mod_lt _ (by decide))]
  have : (b % 18446744073709551616).testBit j = b.testBit j := by
    rw [show (18446744073709551616 : Nat) = 2 ^ 64 from rfl, Nat.testBit_mod_two_pow]
    simp [hj]
  rw [this]
  simp [hj]

theorem span_of_below (lo hi : Int) : (2 ^ clamp hi - 1) &&& (18446744073709551615 - (2 ^ clamp lo - 1) % 18446744073709551616) = spanS lo hi := by
  apply eq_of_bits
  intro j
  unfold spanS
  rw [spF_bit]
  by_cases hj : j < 64
  · rw [andNot_bit _ _ _ hj, below_bit, below_bit]
    unfold clamp
    rw [Bool.eq_iff_iff]
    simp
    omega
  · have h1 : bitB ((2 ^ clamp hi - 1) &&& (18446744073709551615 - (2 ^ clamp lo - 1) % 18446744073709551616)) j = false := by
      unfold bitB
      rw [Nat.testBit_and]
      have := below_bit (clamp hi) j
      unfold bitB at this
      rw [this]
      have : ¬ j < clamp hi := by unfold clamp; omega
      simp [this]
    rw [h1]
    simp; omega

theorem spanS_lt (lo hi : Int) : spanS lo hi < 18446744073709551616 := spF_lt lo hi 64

theorem spanS_bit (lo hi : Int) (j : Nat) : bitB (spanS lo hi) j = decide (j < 64 ∧ lo ≤ (j : Int) ∧ (j : Int) < hi) := spF_bit lo hi j 64

end Go.Proofs.YtgipddeldddbnaaGreat

namespace Go.Proofs.YtgipddeldddbnaaGreat
open Go Go.RowKit

end Go.Proofs.YtgipddeldddbnaaGreat

namespace Go.Proofs.YtgipddeldddbnaaGreat
open Go Go.RowKit Go.Shelf
set_option linter.unusedSimpArgs false
set_option linter.unusedVariables false
section
variable {w w' : World} {p m k g cap : Nat} {s : St} {t d : Int} {hd : List Value} {rv ev : Value} {c : Cfg} {b : Nat} {f x : Fra}
/-- Cell 5 of a machine of Pop: its level. -/
theorem LB.put5 {ty : TypeId} {cd vl : Int} {u a0 a1 : Value} (h : LB w b ty [u, a0, a1] f cd vl) (v : Value) : LB (w.setCell ⟨b, 5, none⟩ v) b ty [u, a0, v] f cd vl := by
  refine ⟨?_, h.t1, h.t2, h.t3, h.t4⟩
  have hb := h.blk.put 5 v
  simp only [List.cons_append, List.nil_append, List.setIfInBounds_toArray, List.set_cons_zero, List.set_cons_succ] at hb
  exact hb
theorem LB.ofln {ty : TypeId} {post : List Value} {cd vl : Int} {q : Nat} {f' : Fra} (h : LB w q ty post f cd vl) (e : f'.ln = f.ln) : LB w q ty post f' cd vl := by
  refine ⟨?_, h.t1, h.t2, h.t3, h.t4⟩
  have hb := h.blk
  simp only [lncells] at hb ⊢
  rw [e]
  exact hb
end
end Go.Proofs.YtgipddeldddbnaaGreat

namespace Go.Proofs.YtgipddeldddbnaaGreat
open Go Go.RowKit
set_option linter.unusedSimpArgs false

/-- A machine's steps until it is done: the state, the result, how many there are. -/
def runS (stp : St → Fra → St × Fra × Res) : Nat → St → Fra → Option (St × Res × Nat)
  | 0, _, _ => none
  | n + 1, s, f => if (stp s f).2.2.dn = true then some ((stp s f).1, (stp s f).2.2, 1) else (runS stp n (stp s f).1 (stp s f).2.1).map fun x => (x.1, x.2.1, x.2.2 + 1)
theorem runS_end {stp : St → Fra → St × Fra × Res} {n N : Nat} {s s' : St} {f : Fra} {r : Res} (h : runS stp (n + 1) s f = some (s', r, N)) (hd : (stp s f).2.2.dn = true) : (stp s f).1 = s' ∧ (stp s f).2.2 = r ∧ N = 1 := by
  unfold runS at h
  rw [if_pos hd] at h
  simp only [Option.some.injEq, Prod.mk.injEq] at h
  exact ⟨h.1, h.2.1, h.2.2.symm⟩
theorem runS_on {stp : St → Fra → St × Fra × Res} {n N : Nat} {s s' : St} {f : Fra} {r : Res} (h : runS stp (n + 1) s f = some (s', r, N)) (hd : (stp s f).2.2.dn = false) : ∃ M, runS stp n (stp s f).1 (stp s f).2.1 = some (s', r, M) ∧ N = M + 1 := by
  unfold runS at h
  rw [if_neg (by rw [hd]; decide)] at h
  cases h2 : runS stp n (stp s f).1 (stp s f).2.1 with
  | none => rw [h2] at h; simp at h
  | some x =>
    rw [h2] at h
    obtain ⟨a, b, c⟩ := x
    simp only [Option.map_some, Option.some.injEq, Prod.mk.injEq] at h
    obtain ⟨rfl, rfl, rfl⟩ := h
    exact ⟨c, rfl, rfl⟩
end Go.Proofs.YtgipddeldddbnaaGreat
