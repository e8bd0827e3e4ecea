/-
  Plain arithmetic on words, with no Go in sight: bits of a natural number below 2^64, their least, greatest, n-th and number; spans; the parallel count; packed keys.
  What an access changes of a memory's state. No function is named.
  Plain mathematics of a memory's states: words are not negative, accesses are counted. No function is named.
  Pure: the word of one bit; the lines of a set and of a clear; what they keep. No function and no type is named.
  The contracts of the reference's words (workstealref01): power and Mask.
  The contracts of the reference's words (workstealref01): Bit.
-/
import Derived.Laws.Bits64b
import Derived.Lib.TrailingZeros
import Derived.Lib.BitFns
import Derived.Test.YtheimjcgpbmecaaGreatMgAA
import Derived.Test.YtheimjcgpbmecaaGreatMgAD
import Derived.Laws.BitsAllLaws
import Derived.Test.YtheimjcgpbmecaaGreatMgAC
import Derived.WalkSpells
import Derived.Lib.Hide
import Derived.Deep.QuietTactic
import Derived.BigQuiet
import Derived.Outline
namespace Go.Proofs.YtheimjcgpbmecaaGreat
open Go

/-- Whether bit i is 1, behind a name that no tactic opens. -/
def bitB (x i : Nat) : Bool := x.testBit i

theorem bitB_quo (x i : Nat) : (x / 2 ^ i % 2 == 1) = bitB x i := by
  unfold bitB
  rw [Nat.testBit_eq_decide_div_mod_eq]
  by_cases h : x / 2 ^ i % 2 = 1 <;> simp [h]

/-- The n-th bit that is 1 among the last f ones (bits 64 - f to 63). -/
def nthF (x : Nat) : Nat → Int → Int
  | 0, _ => -1
  | f + 1, n => if bitB x (63 - f) = true then (if n = 0 then ((63 - f : Nat) : Int) else nthF x f (n - 1)) else nthF x f n

def nthS (x : Nat) (n : Int) : Int := if n < 0 then -1 else nthF x 64 n

/-- The number of bits below k that are 1. -/
def cntF (x : Nat) : Nat → Nat
  | 0 => 0
  | k + 1 => cntF x k + (if bitB x k = true then 1 else 0)

def cntS (x : Nat) : Int := (cntF x 64 : Nat)

def hiS (x : Nat) : Int := (Lib.bitLen x : Int) - 1

def loS (x : Nat) : Int := if x = 0 then -1 else (Lib.ctz 64 x : Nat)

/-- The sum of the powers of 2 from lo to hi - 1, below k. -/
def spF (lo hi : Int) : Nat → Nat
  | 0 => 0
  | k + 1 => spF lo hi k + (if lo ≤ (k : Int) ∧ (k : Int) < hi then 2 ^ k else 0)

def spanS (lo hi : Int) : Nat := spF lo hi 64

theorem cntF_le (x : Nat) : ∀ k, cntF x k ≤ k
  | 0 => Nat.le_refl _
  | k + 1 => by
    have := cntF_le x k
    unfold cntF
    split <;> omega

theorem bitB_ge (x i : Nat) (h : x < 2 ^ i) : bitB x i = false := Nat.testBit_lt_two_pow h

theorem bitB_ge64 (x i : Nat) (h : x < 18446744073709551616) (hi : 64 ≤ i) : bitB x i = false :=
  bitB_ge x i (Nat.lt_of_lt_of_le (show x < 2 ^ 64 from h) (Nat.pow_le_pow_right (by decide) hi))

theorem bitB_zero (i : Nat) : bitB 0 i = false := Nat.zero_testBit i

theorem nthF_bounds (x : Nat) : ∀ f n, f ≤ 64 → -1 ≤ nthF x f n ∧ nthF x f n ≤ 63
  | 0, n, _ => by simp [nthF]
  | f + 1, n, h => by
    have a := nthF_bounds x f n (by omega)
    have b := nthF_bounds x f (n - 1) (by omega)
    unfold nthF
    split
    · split
      · omega
      · exact b
    · exact a

/-! ### The greatest bit -/
theorem bitLen_bit (x i : Nat) (hx : x < 18446744073709551616) (hi : i < 64) (hb : bitB x i = true) (hz : ∀ j, i < j → j < 64 → bitB x j = false) : Lib.bitLen x = i + 1 := by
  have h1 : 2 ^ i ≤ x := Nat.ge_two_pow_of_testBit hb
  have h2 : x < 2 ^ (i + 1) := by
    apply Nat.lt_pow_two_of_testBit
    intro j hj
    by_cases h : j < 64
    · exact hz j (by omega) h
    · exact bitB_ge64 x j hx (by omega)
  have a := Lib.bitLen_le x (i + 1) (by omega) h2
  have b := Lib.bitLen_shift i x h1 hx
  have c : x / 2 ^ i ≠ 0 := by
    have := Nat.div_pos h1 (Nat.two_pow_pos i)
    omega
  have d : Lib.bitLen (x / 2 ^ i) = 1 + Lib.bitLen (x / 2 ^ i / 2) := Lib.bitLen_half _ c (Nat.lt_of_le_of_lt (Nat.div_le_self _ _) hx)
  omega

theorem bitLen_none (x : Nat) (hx : x < 18446744073709551616) (hz : ∀ j, j < 64 → bitB x j = false) : Lib.bitLen x = 0 := by
  have : x < 2 ^ 0 := by
    apply Nat.lt_pow_two_of_testBit
    intro j _
    by_cases h : j < 64
    · exact hz j h
    · exact bitB_ge64 x j hx (by omega)
  have := Lib.bitLen_le x 0 (by omega) this
  omega

/-! ### The least bit -/
theorem ctz_spec (x : Nat) (h0 : x ≠ 0) (hx : x < 18446744073709551616) : bitB x (Lib.ctz 64 x) = true ∧ (∀ j, j < Lib.ctz 64 x → bitB x j = false) ∧ Lib.ctz 64 x < 64 := by
  have e : Lib.ctz 64 x = Lib.ctzFrom 64 x := by simp [Lib.ctz, h0]
  rw [e]
  obtain ⟨m, hm, hk⟩ := Lib.ctzFrom_spec 64 x (by omega) hx
  clear e
  generalize Lib.ctzFrom 64 x = k at hm hk ⊢
  subst hm
  unfold bitB
  refine ⟨?_, ?_, hk⟩
  · rw [Nat.mul_comm, Nat.testBit_mul_two_pow]
    simp [Nat.testBit_zero]
  · intro j hj
    rw [Nat.mul_comm, Nat.testBit_mul_two_pow]
    simp; omega

theorem nthF_skip (x c : Nat) (hz : ∀ j, j < c → bitB x j = false) : ∀ f, 64 - f ≤ c → f ≤ 64 → ∀ n, nthF x f n = nthF x (64 - c) n
  | 0, h, _, n => by
    have : 64 - c = 0 := by omega
    rw [this]
  | f + 1, h, hf, n => by
    by_cases e : 64 - c = f + 1
    · rw [e]
    · have hb : bitB x (63 - f) = false := hz _ (by omega)
      rw [nthF, if_neg (by rw [hb]; decide)]
      exact nthF_skip x c hz f (by omega) (by omega) n

theorem nth_zero_low (x : Nat) (hx : x < 18446744073709551616) : nthF x 64 0 = loS x := by
  unfold loS
  by_cases h0 : x = 0
  · subst h0
    rw [if_pos rfl]
    rw [nthF_skip 0 64 (fun j _ => bitB_zero j) 64 (by omega) (by omega)]
    rfl
  · obtain ⟨h1, h2, h3⟩ := ctz_spec x h0 hx
    rw [if_neg h0, nthF_skip x _ h2 64 (by omega) (by omega)]
    obtain ⟨f, hf⟩ : ∃ f, 64 - Lib.ctz 64 x = f + 1 := ⟨63 - Lib.ctz 64 x, by omega⟩
    have hc : 63 - f = Lib.ctz 64 x := by omega
    rw [hf, nthF, hc, if_pos h1, if_pos rfl]

/-! ### Spans -/
theorem spF_lt (lo hi : Int) : ∀ k, spF lo hi k < 2 ^ k
  | 0 => by simp [spF]
  | k + 1 => by
    have := spF_lt lo hi k
    rw [spF, Nat.pow_succ]
    split <;> omega

theorem spF_bit (lo hi : Int) (j : Nat) : ∀ k, bitB (spF lo hi k) j = decide (j < k ∧ lo ≤ (j : Int) ∧ (j : Int) < hi)
  | 0 => by simp [spF, bitB]
  | k + 1 => by
    have ih := spF_bit lo hi j k
    have hl := spF_lt lo hi k
    rw [spF]
    by_cases hc : lo ≤ (k : Int) ∧ (k : Int) < hi
    · rw [if_pos hc]
      unfold bitB at *
      by_cases hj : j = k
      · subst hj
        rw [Nat.add_comm, Nat.testBit_two_pow_add_eq, Nat.testBit_lt_two_pow hl]
        simp [hc]
      · by_cases hjk : j < k
        · rw [Nat.add_comm, Nat.testBit_two_pow_add_gt hjk, ih]
          simp [hjk]; intros; omega
        · have : spF lo hi k + 2 ^ k < 2 ^ j := by
            have : (2 : Nat) ^ (k + 1) ≤ 2 ^ j := Nat.pow_le_pow_right (by decide) (by omega)
            rw [Nat.pow_succ] at this
            omega
          rw [Nat.testBit_lt_two_pow this]
          simp; omega
    · rw [if_neg hc, Nat.add_zero, ih]
      by_cases hj : j = k
      · subst hj
        simp only [Nat.lt_irrefl, false_and, decide_false]
        simp only [Nat.lt_add_one, true_and]
        simp [hc]
      · rw [Bool.eq_iff_iff]
        simp only [decide_eq_true_eq]
        omega

/-- n, brought between 0 and 64. -/
def clamp (n : Int) : Nat := min n.toNat 64

theorem below_bit (c j : Nat) : bitB (2 ^ c - 1) j = decide (j < c) := by
  unfold bitB
  rw [Nat.testBit_two_pow_sub_one]

theorem eq_of_bits (x y : Nat) (h : ∀ j, bitB x j = bitB y j) : x = y := Nat.eq_of_testBit_eq h

theorem andNot_bit (a b j : Nat) (hj : j < 64) : bitB (a &&& (18446744073709551615 - b % 18446744073709551616)) j = (bitB a j && !bitB b j) := by
  unfold bitB
  rw [Nat.testBit_and]
  have e : 18446744073709551615 - b % 18446744073709551616 = 2 ^ 64 - (b % 18446744073709551616 + 1) := by omega
  rw [e, Nat.testBit_two_pow_sub_succ (Nat.mod_lt _ (by decide))]
  have : (b % 18446744073709551616).testBit j = b.testBit j := by
    rw [show (18446744073709551616 : Nat) = 2 ^ 64 from rfl, Nat.testBit_mod_two_pow]
    simp [hj]
  rw [this]
  simp [hj]

theorem span_of_below (lo hi : Int) : (2 ^ clamp hi - 1) &&& (18446744073709551615 - (2 ^ clamp lo - 1) % 18446744073709551616) = spanS lo hi := by
  apply eq_of_bits
  intro j
  unfold spanS
  rw [spF_bit]
  by_cases hj : j < 64
  · rw [andNot_bit _ _ _ hj, below_bit, below_bit]
    unfold clamp
    rw [Bool.eq_iff_iff]
    simp
    omega
  · have h1 : bitB ((2 ^ clamp hi - 1) &&& (18446744073709551615 - (2 ^ clamp lo - 1) % 18446744073709551616)) j = false := by
      unfold bitB
      rw [Nat.testBit_and]
      have := below_bit (clamp hi) j
      unfold bitB at this
      rw [this]
      have : ¬ j < clamp hi := by unfold clamp; omega
      simp [this]
    rw [h1]
    simp; omega

theorem spanS_lt (lo hi : Int) : spanS lo hi < 18446744073709551616 := spF_lt lo hi 64

theorem spanS_bit (lo hi : Int) (j : Nat) : bitB (spanS lo hi) j = decide (j < 64 ∧ lo ≤ (j : Int) ∧ (j : Int) < hi) := spF_bit lo hi j 64

end Go.Proofs.YtheimjcgpbmecaaGreat

namespace Go.Proofs.YtheimjcgpbmecaaGreat
open Go Go.RowKit

theorem go_len (s : St) (k i : Int) (F : Int → Int) : (s.go k i F).X.length = s.X.length := by
  unfold St.go
  split
  · simp [St.acc]
  · rfl
theorem go_has (s : St) (k i j : Int) (F : Int → Int) : (s.go k i F).has j ↔ s.has j := by
  unfold St.has
  rw [go_len]
theorem go_old (s : St) (k i : Int) (F : Int → Int) (h : s.has i) : (s.go k i F).old i = F (s.old i) := by
  have h' := (go_has s k i i F).2 h
  unfold St.old
  rw [if_pos h', if_pos h]
  unfold St.go
  rw [if_pos h]
  have h2 : i.toNat < s.X.length := by have := h.1; have := h.2; omega
  simp [St.acc, List.getD_eq_getElem?_getD, h2]
theorem go_other (s : St) (k i j : Int) (F : Int → Int) (h : i ≠ j) : (s.go k i F).old j = s.old j := by
  unfold St.old
  by_cases hj : s.has j
  · rw [if_pos hj, if_pos ((go_has s k i j F).2 hj)]
    unfold St.go
    split
    · rename_i hi
      have : i.toNat ≠ j.toNat := by have := hi.1; have := hj.1; omega
      simp [St.acc, List.getD_eq_getElem?_getD, this]
    · rfl
  · rw [if_neg hj, if_neg (fun h => hj ((go_has s k i j F).1 h))]
end Go.Proofs.YtheimjcgpbmecaaGreat

namespace Go.Proofs.YtheimjcgpbmecaaGreat
open Go Go.RowKit
set_option linter.unusedSimpArgs false

/-- No word is negative. -/
def St.N (s : St) : Prop := ∀ i, 0 ≤ s.old i
theorem go_N {s : St} (h : s.N) (k i : Int) (F : Int → Int) (hF : ∀ x, 0 ≤ x → 0 ≤ F x) : (s.go k i F).N := by
  intro j
  by_cases hj : i = j
  · subst hj
    by_cases hi : s.has i
    · rw [go_old s k i F hi]
      exact hF _ (h i)
    · unfold St.go
      rw [if_neg hi]
      exact h i
  · rw [go_other s k i j F hj]
    exact h j
theorem old_len {s : St} (j : Nat) (hj : j < s.X.length) : s.old j = s.X.getD j 0 := by
  have h : s.has j := ⟨by omega, by omega⟩
  unfold St.old
  rw [if_pos h, Int.toNat_natCast]
theorem N_of {s : St} (h : ∀ j, j < s.X.length → 0 ≤ s.X.getD j 0) : s.N := by
  intro i
  unfold St.old
  split
  · rename_i hi
    have := hi.1
    have := hi.2
    exact h i.toNat (by omega)
  · omega
/-- An access counts as one at most. -/
theorem go_c {s : St} (k i : Int) (F : Int → Int) (h : 0 ≤ s.c ∧ s.c < 1000000) : s.c ≤ (s.go k i F).c ∧ (s.go k i F).c ≤ s.c + 1 := by
  unfold St.go
  split
  · simp only [St.acc]
    unfold wrap64
    omega
  · omega

/-- What keeps the owner's push going. -/
def PushOk (f : Fra) : Prop := (f.ln = 1 ∨ f.ln = 2 ∨ f.ln = 3 ∨ f.ln = 4) ∧ 0 ≤ f.fu ∧ 0 ≤ f.fv ∧ f.qc ≤ 9223372036854775807
def PopOk (f : Fra) : Prop := (f.ln = 1 ∨ f.ln = 2 ∨ f.ln = 3 ∨ f.ln = 4 ∨ f.ln = 5 ∨ f.ln = 6 ∨ f.ln = 7 ∨ f.ln = 8 ∨ f.ln = 9) ∧ 0 ≤ f.fu ∧ 0 ≤ f.fv ∧ f.qc ≤ 9223372036854775807
def StealOk (f : Fra) : Prop := (f.ln = 1 ∨ f.ln = 2 ∨ f.ln = 3 ∨ f.ln = 4) ∧ 0 ≤ f.fu ∧ 0 ≤ f.fv ∧ f.qc ≤ 9223372036854775807

/-- What a step keeps: the words, the count, what the line says; the result is 0 and 0 as long as it isn't done. -/
structure Keeps (stp : St → Fra → St × Fra × Res) (ok : Fra → Prop) : Prop where
  n : ∀ (s : St) (f : Fra), s.N → ok f → (stp s f).1.N
  o : ∀ (s : St) (f : Fra), s.N → ok f → (stp s f).2.2.dn = false → ok (stp s f).2.1
  uv : ∀ (s : St) (f : Fra), s.N → ok f → 0 ≤ (stp s f).2.1.fu ∧ 0 ≤ (stp s f).2.1.fv
  c : ∀ (s : St) (f : Fra), 0 ≤ s.c ∧ s.c < 1000000 → s.c ≤ (stp s f).1.c ∧ (stp s f).1.c ≤ s.c + 1
  z : ∀ (s : St) (f : Fra), (stp s f).2.2.dn = false → (stp s f).2.2.cd = 0 ∧ (stp s f).2.2.vl = 0
  q : ∀ (s : St) (f : Fra), (stp s f).2.1.fa = f.fa ∧ (stp s f).2.1.qc = f.qc ∧ (stp s f).2.1.kd = f.kd
  l : ∀ (s : St) (f : Fra), (stp s f).1.X.length = s.X.length

theorem push_keeps : Keeps pushS PushOk := by
  refine ⟨fun s f hs h => ?_, fun s f hs h hd => ?_, fun s f hs h => ?_, fun s f h => ?_, fun s f hd => ?_, fun s f => ?_, fun s f => ?_⟩
  · unfold pushS
    split
    · exact go_N hs _ _ _ (fun x hx => hx)
    split
    · split <;> exact go_N hs _ _ _ (fun x hx => hx)
    split
    · exact go_N hs _ _ _ (fun x hx => u64_nn _)
    · exact go_N hs _ _ _ (fun x hx => u64_nn _)
  · obtain ⟨hl, hu, hv, hq⟩ := h
    revert hd
    unfold pushS
    split
    · intro _
      exact ⟨.inr (.inl rfl), hs _, hv, hq⟩
    split
    · split
      · intro hd
        exact absurd hd (by simp)
      · intro _
        exact ⟨.inr (.inr (.inl rfl)), hu, hs _, hq⟩
    split
    · intro _
      exact ⟨.inr (.inr (.inr rfl)), hu, hv, hq⟩
    · intro hd
      exact absurd hd (by simp)
  · obtain ⟨hl, hu, hv, hq⟩ := h
    unfold pushS
    split
    · exact ⟨hs _, hv⟩
    split
    · split <;> exact ⟨hu, hs _⟩
    split <;> exact ⟨hu, hv⟩
  · unfold pushS
    split
    · exact go_c _ _ _ h
    split
    · split <;> exact go_c _ _ _ h
    split <;> exact go_c _ _ _ h
  · revert hd
    unfold pushS
    split
    · intro _; exact ⟨rfl, rfl⟩
    split
    · split
      · intro hd; exact absurd hd (by simp)
      · intro _; exact ⟨rfl, rfl⟩
    split
    · intro _; exact ⟨rfl, rfl⟩
    · intro hd; exact absurd hd (by simp)
  · unfold pushS
    split
    · exact ⟨rfl, rfl, rfl⟩
    split
    · split <;> exact ⟨rfl, rfl, rfl⟩
    split <;> exact ⟨rfl, rfl, rfl⟩
  · unfold pushS
    split
    · exact go_len _ _ _ _
    split
    · split <;> exact go_len _ _ _ _
    split <;> exact go_len _ _ _ _

theorem pop4_in (z : Int) : pop4 z = 5 ∨ pop4 z = 6 ∨ pop4 z = 9 := by
  unfold pop4
  split
  · exact .inr (.inl rfl)
  split
  · exact .inr (.inr rfl)
  · exact .inl rfl
theorem pop_keeps : Keeps popS PopOk := by
  refine ⟨fun s f hs h => ?_, fun s f hs h hd => ?_, fun s f hs h => ?_, fun s f h => ?_, fun s f hd => ?_, fun s f => ?_, fun s f => ?_⟩
  · obtain ⟨hl, hu, hv, hq⟩ := h
    unfold popS
    split
    · exact go_N hs _ _ _ (fun x hx => hx)
    split
    · split <;> exact go_N hs _ _ _ (fun x hx => hx)
    split
    · exact go_N hs _ _ _ (fun x hx => u64_nn _)
    split
    · exact go_N hs _ _ _ (fun x hx => hx)
    split
    · exact go_N hs _ _ _ (fun x hx => hx)
    split
    · show (s.go 3 f.qt (fun x => if x = f.fv then add1 f.fv else x)).N
      apply go_N hs
      intro x hx
      show 0 ≤ if x = f.fv then add1 f.fv else x
      split
      · exact u64_nn _
      · exact hx
    split
    · exact go_N hs _ _ _ (fun x hx => hu)
    · exact go_N hs _ _ _ (fun x hx => hu)
  · obtain ⟨hl, hu, hv, hq⟩ := h
    revert hd
    unfold popS
    split
    · intro _
      exact ⟨.inr (.inl rfl), hs _, hv, hq⟩
    split
    · split
      · intro hd
        exact absurd hd (by simp)
      · intro _
        exact ⟨.inr (.inr (.inl rfl)), hu, hs _, hq⟩
    split
    · intro _
      exact ⟨.inr (.inr (.inr (.inl rfl))), hu, hv, hq⟩
    split
    · intro _
      refine ⟨?_, hu, hs _, hq⟩
      show pop4 _ = 1 ∨ pop4 _ = 2 ∨ pop4 _ = 3 ∨ pop4 _ = 4 ∨ pop4 _ = 5 ∨ pop4 _ = 6 ∨ pop4 _ = 7 ∨ pop4 _ = 8 ∨ pop4 _ = 9
      have := pop4_in (sizeI (sub1 f.fu) (s.old f.qt))
      omega
    split
    · intro hd
      exact absurd hd (by simp)
    split
    · intro _
      refine ⟨?_, hu, hv, hq⟩
      show (if s.hit f.qt f.fv = true then (7 : Int) else 9) = 1 ∨ (if s.hit f.qt f.fv = true then (7 : Int) else 9) = 2 ∨ (if s.hit f.qt f.fv = true then (7 : Int) else 9) = 3 ∨ (if s.hit f.qt f.fv = true then (7 : Int) else 9) = 4 ∨ (if s.hit f.qt f.fv = true then (7 : Int) else 9) = 5 ∨ (if s.hit f.qt f.fv = true then (7 : Int) else 9) = 6 ∨ (if s.hit f.qt f.fv = true then (7 : Int) else 9) = 7 ∨ (if s.hit f.qt f.fv = true then (7 : Int) else 9) = 8 ∨ (if s.hit f.qt f.fv = true then (7 : Int) else 9) = 9
      split <;> omega
    split
    · intro _
      exact ⟨.inr (.inr (.inr (.inr (.inr (.inr (.inr (.inl rfl))))))), hu, hv, hq⟩
    · intro hd
      exact absurd hd (by simp)
  · obtain ⟨hl, hu, hv, hq⟩ := h
    unfold popS
    split
    · exact ⟨hs _, hv⟩
    split
    · split <;> exact ⟨hu, hs _⟩
    split
    · exact ⟨hu, hv⟩
    split
    · exact ⟨hu, hs _⟩
    split
    · exact ⟨hu, hv⟩
    split
    · exact ⟨hu, hv⟩
    split <;> exact ⟨hu, hv⟩
  · unfold popS
    split
    · exact go_c _ _ _ h
    split
    · split <;> exact go_c _ _ _ h
    split
    · exact go_c _ _ _ h
    split
    · exact go_c _ _ _ h
    split
    · exact go_c _ _ _ h
    split
    · exact go_c _ _ _ h
    split <;> exact go_c _ _ _ h
  · revert hd
    unfold popS
    split
    · intro _; exact ⟨rfl, rfl⟩
    split
    · split
      · intro hd; exact absurd hd (by simp)
      · intro _; exact ⟨rfl, rfl⟩
    split
    · intro _; exact ⟨rfl, rfl⟩
    split
    · intro _; exact ⟨rfl, rfl⟩
    split
    · intro hd; exact absurd hd (by simp)
    split
    · intro _; exact ⟨rfl, rfl⟩
    split
    · intro _; exact ⟨rfl, rfl⟩
    · intro hd; exact absurd hd (by simp)
  · unfold popS
    split
    · exact ⟨rfl, rfl, rfl⟩
    split
    · split <;> exact ⟨rfl, rfl, rfl⟩
    split
    · exact ⟨rfl, rfl, rfl⟩
    split
    · exact ⟨rfl, rfl, rfl⟩
    split
    · exact ⟨rfl, rfl, rfl⟩
    split
    · exact ⟨rfl, rfl, rfl⟩
    split <;> exact ⟨rfl, rfl, rfl⟩
  · unfold popS
    split
    · exact go_len _ _ _ _
    split
    · split <;> exact go_len _ _ _ _
    split
    · exact go_len _ _ _ _
    split
    · exact go_len _ _ _ _
    split
    · exact go_len _ _ _ _
    split
    · exact go_len _ _ _ _
    split <;> exact go_len _ _ _ _
end Go.Proofs.YtheimjcgpbmecaaGreat

namespace Go.Proofs.YtheimjcgpbmecaaGreat
open Go Go.RowKit
set_option linter.unusedSimpArgs false

/-- The word of one bit. -/
def maskS (i : Int) : Int := if i < 0 ∨ 63 < i then 0 else ((2 ^ i.toNat : Nat) : Int)
/-- The complement of a word, as the program's arithmetic has it. -/
abbrev notU (x : Int) : Int := bits .xor .u64 (if IntKind.u64.signed = true then -1 else IntKind.u64.max) x
/-- A line of clearBit. -/
def clearS (s : St) (f : Fra) : St × Fra × Res :=
  if f.ln = 1 then (s.go 5 f.fa (fun x => bits .and .u64 x (notU (maskS f.fb))), { f with ln := 2 }, .none)
  else if f.ln = 2 then (s.go 1 f.qb id, { f with fu := s.old f.qb, ln := 3 }, .none)
  else if f.ln = 3 then
    if sizeI f.fu (s.old f.qt) ≤ 0 then (s.go 1 f.qt id, { f with fv := s.old f.qt }, ⟨true, 2, 0⟩)
    else (s.go 1 f.qt id, { f with fv := s.old f.qt, ln := 4 }, .none)
  else (s.go 4 f.fa (fun x => bits .or .u64 x (maskS f.fb)), f, ⟨true, 1, 0⟩)
/-- The line of set. -/
def setS (s : St) (f : Fra) : St × Fra × Res := (s.go 4 f.fa (fun x => bits .or .u64 x (maskS f.fb)), f, ⟨true, 0, 0⟩)
def SetOk (f : Fra) : Prop := f.ln = 1 ∧ 0 ≤ f.fu ∧ 0 ≤ f.fv ∧ f.qc ≤ 9223372036854775807
theorem set_keeps : Keeps setS SetOk := by
  refine ⟨fun s f hs h => go_N hs _ _ _ (fun x hx => u64_nn _), fun s f hs h hd => absurd hd (by simp [setS]), fun s f hs h => ⟨h.2.1, h.2.2.1⟩, fun s f h => go_c _ _ _ h, fun s f hd => absurd hd (by simp [setS]), fun s f => ⟨rfl, rfl, rfl⟩, fun s f => go_len _ _ _ _⟩
theorem clear_keeps : Keeps clearS StealOk := by
  refine ⟨fun s f hs h => ?_, fun s f hs h hd => ?_, fun s f hs h => ?_, fun s f h => ?_, fun s f hd => ?_, fun s f => ?_, fun s f => ?_⟩
  · unfold clearS
    split
    · exact go_N hs _ _ _ (fun x hx => u64_nn _)
    split
    · exact go_N hs _ _ _ (fun x hx => hx)
    split
    · split <;> exact go_N hs _ _ _ (fun x hx => hx)
    · exact go_N hs _ _ _ (fun x hx => u64_nn _)
  · obtain ⟨hl, hu, hv, hq⟩ := h
    revert hd
    unfold clearS
    split
    · intro _
      exact ⟨.inr (.inl rfl), hu, hv, hq⟩
    split
    · intro _
      exact ⟨.inr (.inr (.inl rfl)), hs _, hv, hq⟩
    split
    · split
      · intro hd
        exact absurd hd (by simp)
      · intro _
        exact ⟨.inr (.inr (.inr rfl)), hu, hs _, hq⟩
    · intro hd
      exact absurd hd (by simp)
  · obtain ⟨hl, hu, hv, hq⟩ := h
    unfold clearS
    split
    · exact ⟨hu, hv⟩
    split
    · exact ⟨hs _, hv⟩
    split
    · split <;> exact ⟨hu, hs _⟩
    · exact ⟨hu, hv⟩
  · unfold clearS
    split
    · exact go_c _ _ _ h
    split
    · exact go_c _ _ _ h
    split
    · split <;> exact go_c _ _ _ h
    · exact go_c _ _ _ h
  · revert hd
    unfold clearS
    split
    · intro _; exact ⟨rfl, rfl⟩
    split
    · intro _; exact ⟨rfl, rfl⟩
    split
    · split
      · intro hd; exact absurd hd (by simp)
      · intro _; exact ⟨rfl, rfl⟩
    · intro hd; exact absurd hd (by simp)
  · unfold clearS
    split
    · exact ⟨rfl, rfl, rfl⟩
    split
    · exact ⟨rfl, rfl, rfl⟩
    split
    · split <;> exact ⟨rfl, rfl, rfl⟩
    · exact ⟨rfl, rfl, rfl⟩
  · unfold clearS
    split
    · exact go_len _ _ _ _
    split
    · exact go_len _ _ _ _
    split
    · split <;> exact go_len _ _ _ _
    · exact go_len _ _ _ _
end Go.Proofs.YtheimjcgpbmecaaGreat

namespace Go.Proofs.YtheimjcgpbmecaaGreat
open Go Go.RowKit

theorem reti {k : IntKind} {a b : Int} (h : a = b) : Ending.returned (.int k a) = .returned (.int k b) := by rw [h]

theorem power_next (k j q : Nat) (hk : k < 64) (h0 : 0 < j) (hq : q * 2 ^ j = 2 ^ k) : q * 2 * 2 ^ (j - 1) = 2 ^ k ∧ q * 2 < 18446744073709551616 := by
  obtain ⟨i, rfl⟩ : ∃ i, j = i + 1 := ⟨j - 1, by omega⟩
  rw [Nat.pow_succ] at hq
  have e : q * 2 * 2 ^ (i + 1 - 1) = 2 ^ k := by
    rw [show i + 1 - 1 = i by omega, Nat.mul_assoc, Nat.mul_comm 2]
    exact hq
  refine ⟨e, ?_⟩
  have h1 : q * 2 ≤ q * 2 * 2 ^ (i + 1 - 1) := Nat.le_mul_of_pos_right _ (Nat.two_pow_pos _)
  have h2 : (2 : Nat) ^ k ≤ 2 ^ 63 := Nat.pow_le_pow_right (by decide) (by omega)
  omega

set_option maxHeartbeats 400000 in
theorem power_any (k : Nat) (hk : k < 64) (w : World) :
    Calls Tryz.prog 136 #[.int .i64 (k : Int)] w fun e w' => e = .returned (.int .u64 ((2 ^ k : Nat) : Int)) ∧ w = w' := by
  obtain ⟨P, hP⟩ : ∃ P : Nat, P = 2 ^ k := ⟨_, rfl⟩
  rw [← hP]
  have HP := Lib.hid hP
  clear hP
  go_enter Tryz.func136, Tryz.ntmps136
  go_wp2
  go_loop [0, 3] (fun i p => ∃ j q : Nat, j ≤ k ∧ i = .int .i64 (j : Int) ∧ p = .int .u64 (q : Int) ∧ Hid (q * 2 ^ j = 2 ^ k)) (fun i _ => (intOf i).toNat)
  case atStart => exact ⟨k, 1, Nat.le_refl _, rfl, rfl, Lib.hid (by simp)⟩
  case round =>
    obtain ⟨j, q, hj, rfl, rfl, HQ⟩ := hrel
    by_cases h0 : 0 < j
    · obtain ⟨hn, hb⟩ := power_next k j q hk h0 HQ.out
      have HN := Lib.hid hn
      clear hn
      go_wp2
      go_round
      case rel => exact ⟨j - 1, q * 2, by omega, by go_num, by go_num, HN⟩
      case measure => simp [intOf]; omega
    · go_wp2
      go_ret
      obtain rfl : j = 0 := by omega
      have := HQ.out
      rw [HP.out]
      rw [Nat.pow_zero, Nat.mul_one] at this
      rw [← this]
      exact ⟨rfl, rfl⟩

theorem mask_any (i : Int) (w : World) : Calls Tryz.prog 101 #[.int .i64 i] w fun e w' => e = .returned (.int .u64 (maskS i)) ∧ w = w' := by
  unfold maskS
  by_cases h1 : i < 0
  · rw [if_pos (.inl h1)]
    go_enter Tryz.func101, Tryz.ntmps101
    go_wp2
    go_ret
    exact ⟨rfl, rfl⟩
  by_cases h2 : 63 < i
  · rw [if_pos (.inr h2)]
    go_enter Tryz.func101, Tryz.ntmps101
    go_wp2
    go_ret
    exact ⟨rfl, rfl⟩
  rw [if_neg (by omega)]
  obtain ⟨k, rfl⟩ : ∃ k : Nat, i = (k : Int) := ⟨i.toNat, by omega⟩
  have HP := Lib.hid (power_any k (by omega) w)
  simp only [Int.toNat_natCast]
  generalize 2 ^ k = P at HP ⊢
  go_enter Tryz.func101, Tryz.ntmps101
  go_wp2_with fail
  (with_reducible refine HP.out.mono ?_)
  rintro e w' ⟨rfl, rfl⟩
  go_wp2
  go_ret
  exact ⟨rfl, rfl⟩
end Go.Proofs.YtheimjcgpbmecaaGreat

namespace Go.Proofs.YtheimjcgpbmecaaGreat
open Go Go.RowKit

theorem bit_walk (x i p : Nat) (hx : x < 18446744073709551616) (hp : p = 2 ^ i) : ((IntKind.u64.wrap ((x : Int) / (p : Int))).tmod 2 == 1) = bitB x i := by
  have h0 : x / p ≤ x := Nat.div_le_self _ _
  have e : IntKind.u64.wrap ((x : Int) / (p : Int)) = ((x / p : Nat) : Int) := by
    rw [IntKind.wrap_u64, ← Int.natCast_ediv]
    generalize x / p = q at h0 ⊢
    omega
  rw [e, ← bitB_quo, hp]
  generalize x / 2 ^ i = q
  have e2 : ((q : Int)).tmod 2 = ((q % 2 : Nat) : Int) := by
    rw [Int.tmod_eq_emod_of_nonneg (by omega)]
    omega
  rw [e2, Bool.eq_iff_iff]
  simp
  omega

set_option maxHeartbeats 400000 in
theorem bit_any (x i : Nat) (hx : x < 18446744073709551616) (hi : i < 64) (w : World) :
    Calls Tryz.prog 138 #[.int .u64 (x : Int), .int .i64 (i : Int)] w fun e w' => e = .returned (.bool (bitB x i)) ∧ w = w' := by
  have hp := power_any i hi w
  have h0 : 0 < 2 ^ i := Nat.two_pow_pos _
  have key := bit_walk x i _ hx rfl
  generalize 2 ^ i = p at hp h0 key
  have HP := Lib.hid hp
  clear hp
  have hz : ((p : Int) == 0) = false := by simp; omega
  generalize bitB x i = b at key ⊢
  go_enter Tryz.func138, Tryz.ntmps138
  go_wp2_with (go_at_call 136; refine HP.out.mono ?_; rintro e w' ⟨rfl, rfl⟩)
  go_ret
  exact ⟨rfl, rfl⟩

end Go.Proofs.YtheimjcgpbmecaaGreat
