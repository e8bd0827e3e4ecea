/-
  The walk of the statement WordsOrder: it returns true.
-/
import Derived.Test.YtdjefedlnhfpbaaDoorLawsD
namespace Go.Proofs.YtdjefedlnhfpbaaDoor
open Go Go.RowKit

theorem cntF_mono (x : Nat) : ∀ d m, cntF x m ≤ cntF x (m + d)
  | 0, _ => Nat.le_refl _
  | d + 1, m => by
    have := cntF_mono x d m
    rw [← Nat.add_assoc, cntF]
    omega

theorem nth_from (x k : Nat) : ∀ m, m ≤ 64 → cntF x m ≤ k → nthF x 64 (k : Int) = nthF x (64 - m) ((k : Int) - (cntF x m : Nat))
  | 0, _, _ => by simp [cntF]
  | m + 1, hm, hk => by
    have hle : cntF x m ≤ cntF x (m + 1) := cntF_mono x 1 m
    rw [nth_from x k m (by omega) (by omega)]
    rw [show 64 - m = (63 - m) + 1 by omega, nthF, show 63 - (63 - m) = m by omega, show 64 - (m + 1) = 63 - m by omega]
    rw [cntF] at hk ⊢
    by_cases hb : bitB x m = true
    · rw [if_pos hb] at hk ⊢
      rw [if_pos hb, if_neg (by omega)]
      congr 1
      omega
    · rw [if_neg hb] at hk ⊢
      rw [if_neg hb]
      congr 1

theorem nth_first (x : Nat) : ∀ f, f ≤ 64 → cntF x (64 - f) < cntF x 64 →
    ∃ p : Nat, nthF x f 0 = (p : Int) ∧ 64 - f ≤ p ∧ p < 64 ∧ bitB x p = true ∧ ∀ j, 64 - f ≤ j → j < p → bitB x j = false
  | 0, _, h => absurd h (by simp)
  | f + 1, hf, h => by
    by_cases hb : bitB x (63 - f) = true
    · refine ⟨63 - f, ?_, by omega, by omega, hb, fun j h1 h2 => by omega⟩
      rw [nthF, if_pos hb, if_pos rfl]
    · have hc : cntF x (64 - f) = cntF x (64 - (f + 1)) := by
        rw [show 64 - f = (63 - f) + 1 by omega, cntF, if_neg hb, show 64 - (f + 1) = 63 - f by omega]
        rfl
      obtain ⟨p, h1, h2, h3, h4, h5⟩ := nth_first x f (by omega) (by omega)
      refine ⟨p, ?_, by omega, h3, h4, fun j j1 j2 => ?_⟩
      · rw [nthF, if_neg hb]; exact h1
      · by_cases he : j = 63 - f
        · subst he; simpa using hb
        · exact h5 j (by omega) j2

theorem cntF_same (x m : Nat) : ∀ d, (∀ j, m ≤ j → j < m + d → bitB x j = false) → cntF x (m + d) = cntF x m
  | 0, _ => rfl
  | d + 1, h => by
    rw [← Nat.add_assoc, cntF, cntF_same x m d (fun j h1 h2 => h j h1 (by omega)), if_neg (by rw [h (m + d) (by omega) (by omega)]; decide)]
    rfl

theorem none_of_cnt (x m : Nat) (_hm : m ≤ 64) (h : cntF x m = cntF x 64) : ∀ j, m ≤ j → j < 64 → bitB x j = false := by
  intro j h1 h2
  cases hb : bitB x j
  · rfl
  · have a := cntF_mono x (j - m) m
    have b := cntF_mono x (64 - (j + 1)) (j + 1)
    rw [show m + (j - m) = j by omega] at a
    rw [show j + 1 + (64 - (j + 1)) = 64 by omega] at b
    rw [cntF, if_pos hb] at b
    omega

theorem mod_bit (x m j : Nat) : bitB (x % 2 ^ m) j = (decide (j < m) && bitB x j) := Nat.testBit_mod_two_pow x m j

theorem mod_skip (x m p : Nat) (hmp : m ≤ p) (h : ∀ j, m ≤ j → j < p → bitB x j = false) : x % 2 ^ p = x % 2 ^ m := by
  apply eq_of_bits
  intro j
  rw [mod_bit, mod_bit]
  by_cases h1 : j < m
  · have : j < p := by omega
    simp [h1, this]
  · by_cases h2 : j < p
    · simp [h1, h2, h j (by omega) h2]
    · simp [h1, h2]

theorem mod_add (x p : Nat) (hb : bitB x p = true) : x % 2 ^ (p + 1) = x % 2 ^ p + 2 ^ p := by
  rw [Nat.mod_pow_succ]
  have : x / 2 ^ p % 2 = 1 := by
    have := bitB_quo x p
    rw [hb] at this
    simpa using this
  rw [this, Nat.mul_one]

/-- One round: the next bit. -/
theorem order_step (x k m : Nat) (hx : x < 18446744073709551616) (hm : m ≤ 64) (hc : cntF x m = k) (hk : k < cntF x 64) :
    ∃ p : Nat, nthS x (k : Int) = (p : Int) ∧ m ≤ p ∧ p < 64 ∧ cntF x (p + 1) = k + 1 ∧ x % 2 ^ (p + 1) = x % 2 ^ m + 2 ^ p ∧
      (k = 0 → loS x = (p : Int)) ∧ (k + 1 = cntF x 64 → hiS x = (p : Int)) := by
  have e : nthS x (k : Int) = nthF x 64 (k : Int) := by unfold nthS; rw [if_neg (by omega)]
  have e2 := nth_from x k m hm (by omega)
  rw [hc, show (k : Int) - (k : Nat) = 0 by omega] at e2
  obtain ⟨p, h1, h2, h3, h4, h5⟩ := nth_first x (64 - m) (by omega) (by rw [show 64 - (64 - m) = m by omega]; omega)
  rw [show 64 - (64 - m) = m by omega] at h2 h5
  have hn : nthS x (k : Int) = (p : Int) := by rw [e, e2, h1]
  have hcp : cntF x p = k := by
    have := cntF_same x m (p - m) (fun j j1 j2 => h5 j j1 (by omega))
    rw [show m + (p - m) = p by omega] at this
    omega
  have hcp1 : cntF x (p + 1) = k + 1 := by rw [cntF, if_pos h4]; omega
  refine ⟨p, hn, h2, h3, hcp1, ?_, fun h => ?_, fun h => ?_⟩
  · rw [mod_add x p h4, mod_skip x m p h2 h5]
  · rw [← nth_zero_low x hx]
    rw [← hn, e, h]
    rfl
  · have := none_of_cnt x (p + 1) (by omega) (by omega)
    have := bitLen_bit x p hx h3 h4 (fun j j1 j2 => this j (by omega) j2)
    unfold hiS
    omega

theorem order_end (x m : Nat) (hx : x < 18446744073709551616) (hm : m ≤ 64) (hc : cntF x m = cntF x 64) : x % 2 ^ m = x ∧ nthS x ((cntF x 64 : Nat) : Int) = -1 := by
  constructor
  · have := mod_skip x m 64 hm (none_of_cnt x m hm hc)
    rw [← this]
    exact Nat.mod_eq_of_lt hx
  · have := nth_from x (cntF x 64) 64 (by omega) (by omega)
    unfold nthS
    rw [if_neg (by omega), this]
    rfl

theorem shl_walk (p : Nat) (hp : p < 64) : IntKind.u64.wrap ((2 : Int) ^ p) = ((2 ^ p : Nat) : Int) := by
  have h1 : (2 : Nat) ^ p ≤ 2 ^ 63 := Nat.pow_le_pow_right (by decide) (by omega)
  have e : ((2 : Int) ^ p) = ((2 ^ p : Nat) : Int) := by simp
  rw [e, IntKind.wrap_u64]
  generalize (2 : Nat) ^ p = t at h1 ⊢
  omega

set_option maxHeartbeats 2000000 in
theorem order_law (x : Nat) (hx : x < 18446744073709551616) (w : World) (hT : Tab w) :
    Calls Tryd.prog 6 #[.int .u64 (x : Int)] w fun e w' => e = .returned (.bool true) ∧ w = w' := by
  have HA := Lib.hid (awake_any w hT)
  have HL := Lib.hid (low_any x hx w hT)
  have HH := Lib.hid (high_any x hx w)
  clear hT
  have HC := Lib.hid (count_any x hx w)
  have hcl := cntF_le x 64
  obtain ⟨N, hN⟩ : ∃ N : Nat, N = cntF x 64 := ⟨_, rfl⟩
  have hcs : cntS x = (N : Int) := by unfold cntS; omega
  rw [hcs] at HC
  have HN := Lib.hid hN
  have hN64 : N ≤ 64 := by omega
  clear hN hcs hcl
  go_enter Tryd.func6, Tryd.ntmps6
  go_wp2_with fail
  refine HC.out.mono ?_
  rintro e w' ⟨rfl, rfl⟩
  go_wp2
  go_loop [3, 4, 6] (fun s l i => ∃ k m q : Nat, k ≤ N ∧ m ≤ 64 ∧ i = .int .i64 (k : Int) ∧ l = .int .i64 ((m : Int) - 1) ∧ s = .int .u64 (q : Int) ∧ Hid (cntF x m = k) ∧ Hid (q = x % 2 ^ m)) (fun _ _ i => N - (intOf i).toNat)
  case atStart => exact ⟨0, 0, 0, by omega, by omega, rfl, rfl, rfl, Lib.hid rfl, Lib.hid (by simp [Nat.mod_one])⟩
  case round =>
    obtain ⟨k, m, q, hk, hm, rfl, rfl, rfl, HM, HQ⟩ := hrel
    by_cases hlt : k < N
    · obtain ⟨p, h1, h2, h3, h4, h5, h6, h7⟩ := order_step x k m hx hm HM.out (HN.out ▸ hlt)
      have HNt := Lib.hid (nth_any x (k : Int) hx (by omega) w)
      rw [h1] at HNt
      have H4 := Lib.hid h4
      have hq : q + 2 ^ p < 18446744073709551616 := by
        rw [HQ.out, ← h5]
        exact Nat.lt_of_le_of_lt (Nat.mod_le _ _) hx
      have H5 := Lib.hid (show q + 2 ^ p = x % 2 ^ (p + 1) by rw [HQ.out, h5])
      have s1 := shl_walk p h3
      have H6 := Lib.hid h6
      have H7 := Lib.hid h7
      clear h1 h4 h5 h6 h7
      generalize 2 ^ p = t at hq H5 s1
      have y1 : (p : Int) ≤ 63 := by omega
      have y2 : (m : Int) - 1 < (p : Int) := by omega
      by_cases k0 : k = 0
      · have hl := H6.out k0
        rw [hl] at HL
        have b0 : ((k : Int) == 0) = true := by simp; omega
        by_cases kn : k + 1 = N
        · have hh := H7.out (kn.trans HN.out)
          rw [hh] at HH
          have b1 : ((k : Int) == (N : Int) - 1) = true := by simp; omega
          clear hl hh k0 kn
          go_wp2_with fail
          refine HNt.out.mono ?_
          rintro e w' ⟨rfl, rfl⟩
          go_wp2_with fail
          refine HL.out.mono ?_
          rintro e w' ⟨rfl, rfl⟩
          go_wp2_with fail
          refine HH.out.mono ?_
          rintro e w' ⟨rfl, rfl⟩
          go_wp2
          go_round
          case rel => exact ⟨k + 1, p + 1, q + t, by omega, by omega, by go_num, by go_num, by go_num, H4, H5⟩
          case measure => simp [intOf]; omega
        · have b1 : ((k : Int) == (N : Int) - 1) = false := by simp; omega
          clear hl k0 kn
          go_wp2_with fail
          refine HNt.out.mono ?_
          rintro e w' ⟨rfl, rfl⟩
          go_wp2_with fail
          refine HL.out.mono ?_
          rintro e w' ⟨rfl, rfl⟩
          go_wp2
          go_round
          case rel => exact ⟨k + 1, p + 1, q + t, by omega, by omega, by go_num, by go_num, by go_num, H4, H5⟩
          case measure => simp [intOf]; omega
      · have b0 : ((k : Int) == 0) = false := by simp; omega
        by_cases kn : k + 1 = N
        · have hh := H7.out (kn.trans HN.out)
          rw [hh] at HH
          have b1 : ((k : Int) == (N : Int) - 1) = true := by simp; omega
          clear hh k0 kn
          go_wp2_with fail
          refine HNt.out.mono ?_
          rintro e w' ⟨rfl, rfl⟩
          go_wp2_with fail
          refine HH.out.mono ?_
          rintro e w' ⟨rfl, rfl⟩
          go_wp2
          go_round
          case rel => exact ⟨k + 1, p + 1, q + t, by omega, by omega, by go_num, by go_num, by go_num, H4, H5⟩
          case measure => simp [intOf]; omega
        · have b1 : ((k : Int) == (N : Int) - 1) = false := by simp; omega
          clear k0 kn
          go_wp2_with fail
          refine HNt.out.mono ?_
          rintro e w' ⟨rfl, rfl⟩
          go_wp2
          go_round
          case rel => exact ⟨k + 1, p + 1, q + t, by omega, by omega, by go_num, by go_num, by go_num, H4, H5⟩
          case measure => simp [intOf]; omega
    · have he : k = N := by omega
      have HE := Lib.hid (order_end x m hx hm (by rw [HM.out, he, HN.out]))
      have HNt := Lib.hid (nth_any x (N : Int) hx (by omega) w)
      have hn := HE.out.2
      rw [← HN.out] at hn
      rw [hn] at HNt
      have HQ2 := Lib.hid (HQ.out.trans HE.out.1)
      obtain rfl : q = x := HQ2.out
      have hge : (N : Int) ≤ (k : Int) := by omega
      clear he hn hlt hk
      go_wp2_with fail
      refine HA.out.mono ?_
      rintro e w' ⟨rfl, rfl⟩
      go_wp2_with fail
      refine HNt.out.mono ?_
      rintro e w' ⟨rfl, rfl⟩
      go_wp2
      go_ret
      exact ⟨rfl, rfl⟩
end Go.Proofs.YtdjefedlnhfpbaaDoor
