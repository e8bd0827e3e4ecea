/-
  The contracts of the calls with loops: Nth, and the reference's High, Low, Count, Nth and Span.
-/
import Derived.Test.YtdjefedlnhfpbaaDoorCallsB
namespace Go.Proofs.YtdjefedlnhfpbaaDoor
open Go Go.RowKit

theorem ret_int {k : IntKind} {a b : Int} (h : a = b) : Ending.returned (.int k a) = .returned (.int k b) := by rw [h]

theorem shr_walk (x k : Nat) (hx : x < 18446744073709551616) : bits .and .u64 ((x : Int) / 2 ^ k) 1 = if bitB x k = true then 1 else 0 := by
  have h0 : x / 2 ^ k ≤ x := Nat.div_le_self _ _
  have e : ((x : Int) / 2 ^ k) = ((x / 2 ^ k : Nat) : Int) := by simp
  have a := bits_and_u64_nat (x / 2 ^ k) 1 (by omega) (by decide)
  rw [e]
  refine a.trans ?_
  rw [← bitB_quo, Nat.and_one_is_mod]
  generalize x / 2 ^ k = q
  by_cases h : q % 2 = 1
  · simp [h]
  · have : q % 2 = 0 := by omega
    simp [this]

set_option maxHeartbeats 1000000 in
theorem nth_pos (x : Nat) (n : Int) (hx : x < 18446744073709551616) (h0 : 0 ≤ n) (h1 : n ≤ 9223372036854775807) (w : World) :
    Calls Tryd.prog 17 #[.int .u64 (x : Int), .int .i64 n] w fun e w' => e = .returned (.int .i64 (nthF x 64 n)) ∧ w = w' := by
  obtain ⟨R, hR⟩ : ∃ R, R = nthF x 64 n := ⟨_, rfl⟩
  rw [← hR]
  have HR := Lib.hid hR
  clear hR
  go_enter Tryd.func17, Tryd.ntmps17
  go_wp2
  go_loop [1, 8] (fun m i => ∃ (k : Nat) (c : Int), k ≤ 64 ∧ i = .int .i64 (k : Int) ∧ m = .int .i64 c ∧ 0 ≤ c ∧ c ≤ 9223372036854775807 ∧ Hid (nthF x (64 - k) c = R)) (fun _ i => 64 - (intOf i).toNat)
  case atStart => exact ⟨0, n, by omega, rfl, rfl, h0, h1, Lib.hid HR.out.symm⟩
  case round =>
    obtain ⟨k, c, hk, rfl, rfl, hc0, hc1, HN⟩ := hrel
    by_cases hlt : k < 64
    · have key := shr_walk x k hx
      have hn := HN.out
      rw [show 64 - k = (63 - k) + 1 by omega, nthF, show 63 - (63 - k) = k by omega] at hn
      have HB := Lib.hid hn
      clear hn
      by_cases hb : bitB x k = true
      · rw [if_pos hb] at key
        rw [if_pos hb] at HB
        clear hb
        by_cases hz : c = 0
        · subst hz
          go_wp2
          go_ret
          exact ⟨ret_int (by have := HB.out; simpa using this), rfl⟩
        · rw [if_neg hz] at HB
          have hz' : (c == 0) = false := by simpa using hz
          have hpos : 1 ≤ c := by omega
          go_wp2
          go_round
          case rel => exact ⟨k + 1, c - 1, by omega, by go_num, by go_num, by omega, by omega, Lib.hid (by rw [show 64 - (k + 1) = 63 - k by omega]; exact HB.out)⟩
          case measure => simp [intOf]; omega
      · rw [if_neg hb] at key
        rw [if_neg hb] at HB
        clear hb
        go_wp2
        go_round
        case rel => exact ⟨k + 1, c, by omega, by go_num, by go_num, hc0, hc1, Lib.hid (by rw [show 64 - (k + 1) = 63 - k by omega]; exact HB.out)⟩
        case measure => simp [intOf]; omega
    · go_wp2
      go_ret
      exact ⟨ret_int (by have := HN.out; rw [show 64 - k = 0 by omega] at this; exact this), rfl⟩

set_option maxHeartbeats 400000 in
theorem nth_neg (x : Nat) (n : Int) (h0 : n < 0) (w : World) :
    Calls Tryd.prog 17 #[.int .u64 (x : Int), .int .i64 n] w fun e w' => e = .returned (.int .i64 (-1)) ∧ w = w' := by
  go_enter Tryd.func17, Tryd.ntmps17
  go_wp2
  go_ret
  exact ⟨rfl, rfl⟩

theorem nth_any (x : Nat) (n : Int) (hx : x < 18446744073709551616) (h1 : n ≤ 9223372036854775807) (w : World) :
    Calls Tryd.prog 17 #[.int .u64 (x : Int), .int .i64 n] w fun e w' => e = .returned (.int .i64 (nthS x n)) ∧ w = w' := by
  unfold nthS
  by_cases h : n < 0
  · rw [if_pos h]; exact nth_neg x n h w
  · rw [if_neg h]; exact nth_pos x n hx (by omega) h1 w

/-! ### The reference -/
set_option maxHeartbeats 1000000 in
theorem rnth_pos (x : Nat) (n : Int) (hx : x < 18446744073709551616) (h0 : 0 ≤ n) (h1 : n ≤ 9223372036854775807) (w : World) :
    Calls Tryd.prog 18 #[.int .u64 (x : Int), .int .i64 n] w fun e w' => e = .returned (.int .i64 (nthF x 64 n)) ∧ w = w' := by
  obtain ⟨R, hR⟩ : ∃ R, R = nthF x 64 n := ⟨_, rfl⟩
  rw [← hR]
  have HR := Lib.hid hR
  clear hR
  go_enter Tryd.func18, Tryd.ntmps18
  go_wp2
  go_loop [1, 5] (fun m i => ∃ (k : Nat) (c : Int), k ≤ 64 ∧ i = .int .i64 (k : Int) ∧ m = .int .i64 c ∧ 0 ≤ c ∧ c ≤ 9223372036854775807 ∧ Hid (nthF x (64 - k) c = R)) (fun _ i => 64 - (intOf i).toNat)
  case atStart => exact ⟨0, n, by omega, rfl, rfl, h0, h1, Lib.hid HR.out.symm⟩
  case round =>
    obtain ⟨k, c, hk, rfl, rfl, hc0, hc1, HN⟩ := hrel
    by_cases hlt : k < 64
    · have hn := HN.out
      rw [show 64 - k = (63 - k) + 1 by omega, nthF, show 63 - (63 - k) = k by omega] at hn
      have HB := Lib.hid hn
      clear hn
      have HK := Lib.hid (bit_any x k hx hlt w)
      generalize bitB x k = b at HB HK
      cases b
      · have HB2 := Lib.hid (show nthF x (63 - k) c = R from by have := HB.out; simpa using this)
        clear HB
        go_wp2_with (go_at_call 28; refine HK.out.mono ?_; rintro e w' ⟨rfl, rfl⟩)
        go_round
        case rel => exact ⟨k + 1, c, by omega, by go_num, by go_num, hc0, hc1, Lib.hid (by rw [show 64 - (k + 1) = 63 - k by omega]; exact HB2.out)⟩
        case measure => simp [intOf]; omega
      · have HB2 := Lib.hid (show (if c = 0 then (k : Int) else nthF x (63 - k) (c - 1)) = R from by have := HB.out; simpa using this)
        clear HB
        by_cases hz : c = 0
        · subst hz
          go_wp2_with (go_at_call 28; refine HK.out.mono ?_; rintro e w' ⟨rfl, rfl⟩)
          go_ret
          exact ⟨ret_int (by have := HB2.out; simpa using this), rfl⟩
        · rw [if_neg hz] at HB2
          have hz' : (c == 0) = false := by simpa using hz
          have hpos : 1 ≤ c := by omega
          go_wp2_with (go_at_call 28; refine HK.out.mono ?_; rintro e w' ⟨rfl, rfl⟩)
          go_round
          case rel => exact ⟨k + 1, c - 1, by omega, by go_num, by go_num, by omega, by omega, Lib.hid (by rw [show 64 - (k + 1) = 63 - k by omega]; exact HB2.out)⟩
          case measure => simp [intOf]; omega
    · go_wp2
      go_ret
      exact ⟨ret_int (by have := HN.out; rw [show 64 - k = 0 by omega] at this; exact this), rfl⟩

theorem neg_step (c : Int) (k : Nat) (hk : k < 64) (h : (-9223372036854775808 ≤ c ∧ c < 0) ∨ (9223372036854775807 - (k : Int) ≤ c ∧ c ≤ 9223372036854775807)) :
    (-9223372036854775808 ≤ wrap64 (c - 1) ∧ wrap64 (c - 1) < 0) ∨ (9223372036854775807 - ((k + 1 : Nat) : Int) ≤ wrap64 (c - 1) ∧ wrap64 (c - 1) ≤ 9223372036854775807) := by
  unfold wrap64; omega

/-- What is left of a negative count: never 0, although it may wrap. -/
def Neg (k : Nat) (c : Int) : Prop := (-9223372036854775808 ≤ c ∧ c < 0) ∨ (9223372036854775807 - (k : Int) ≤ c ∧ c ≤ 9223372036854775807)

set_option maxHeartbeats 1000000 in
theorem rnth_neg (x : Nat) (n : Int) (hx : x < 18446744073709551616) (h0 : n < 0) (h1 : -9223372036854775808 ≤ n) (w : World) :
    Calls Tryd.prog 18 #[.int .u64 (x : Int), .int .i64 n] w fun e w' => e = .returned (.int .i64 (-1)) ∧ w = w' := by
  have HN0 : Neg 0 n := Or.inl ⟨h1, h0⟩
  clear h0 h1
  go_enter Tryd.func18, Tryd.ntmps18
  go_wp2
  go_loop [1, 5] (fun m i => ∃ (k : Nat) (c : Int), k ≤ 64 ∧ i = .int .i64 (k : Int) ∧ m = .int .i64 c ∧ Neg k c) (fun _ i => 64 - (intOf i).toNat)
  case atStart => exact ⟨0, n, by omega, rfl, rfl, HN0⟩
  case round =>
    obtain ⟨k, c, hk, rfl, rfl, HN⟩ := hrel
    by_cases hlt : k < 64
    · have HK := Lib.hid (bit_any x k hx hlt w)
      have hz' : (c == 0) = false := by unfold Neg at HN; simp; omega
      have HS : Neg (k + 1) (wrap64 (c - 1)) := neg_step c k hlt HN
      have HT : Neg (k + 1) c := by unfold Neg at HN ⊢; omega
      generalize bitB x k = b at HK
      cases b
      · go_wp2_with (go_at_call 28; refine HK.out.mono ?_; rintro e w' ⟨rfl, rfl⟩)
        go_round
        case rel => exact ⟨k + 1, c, by omega, by go_num, by go_num, HT⟩
        case measure => simp [intOf]; omega
      · go_wp2_with (go_at_call 28; refine HK.out.mono ?_; rintro e w' ⟨rfl, rfl⟩)
        go_round
        case rel => exact ⟨k + 1, wrap64 (c - 1), by omega, by go_num, by first | rfl | go_num, HS⟩
        case measure => simp [intOf]; omega
    · go_wp2
      go_ret
      exact ⟨rfl, rfl⟩

theorem rnth_any (x : Nat) (n : Int) (hx : x < 18446744073709551616) (h0 : -9223372036854775808 ≤ n) (h1 : n ≤ 9223372036854775807) (w : World) :
    Calls Tryd.prog 18 #[.int .u64 (x : Int), .int .i64 n] w fun e w' => e = .returned (.int .i64 (nthS x n)) ∧ w = w' := by
  unfold nthS
  by_cases h : n < 0
  · rw [if_pos h]; exact rnth_neg x n hx h h0 w
  · rw [if_neg h]; exact rnth_pos x n hx (by omega) h1 w

set_option maxHeartbeats 400000 in
theorem rlow_any (x : Nat) (hx : x < 18446744073709551616) (w : World) :
    Calls Tryd.prog 14 #[.int .u64 (x : Int)] w fun e w' => e = .returned (.int .i64 (loS x)) ∧ w = w' := by
  have h := rnth_pos x 0 hx (by decide) (by decide) w
  rw [nth_zero_low x hx] at h
  have H := Lib.hid h
  clear h
  go_enter Tryd.func14, Tryd.ntmps14
  go_wp2_with (go_at_call 18; refine H.out.mono ?_; rintro e w' ⟨rfl, rfl⟩)
  go_ret
  exact ⟨rfl, rfl⟩

set_option maxHeartbeats 400000 in
theorem rcount_any (x : Nat) (hx : x < 18446744073709551616) (w : World) :
    Calls Tryd.prog 16 #[.int .u64 (x : Int)] w fun e w' => e = .returned (.int .i64 (cntS x)) ∧ w = w' := by
  go_enter Tryd.func16, Tryd.ntmps16
  go_wp2
  go_loop [3, 4] (fun n i => ∃ k c : Nat, k ≤ 64 ∧ i = .int .i64 (k : Int) ∧ n = .int .i64 (c : Int) ∧ c ≤ k ∧ Hid (c = cntF x k)) (fun _ i => 64 - (intOf i).toNat)
  case atStart => exact ⟨0, 0, by omega, rfl, rfl, by omega, Lib.hid rfl⟩
  case round =>
    obtain ⟨k, c, hk, rfl, rfl, hck, HN⟩ := hrel
    by_cases hlt : k < 64
    · have HK := Lib.hid (bit_any x k hx hlt w)
      have HB := Lib.hid (show cntF x (k + 1) = c + (if bitB x k = true then 1 else 0) by rw [cntF, HN.out])
      generalize bitB x k = b at HK HB
      cases b
      · go_wp2_with (go_at_call 28; refine HK.out.mono ?_; rintro e w' ⟨rfl, rfl⟩)
        go_round
        case rel => exact ⟨k + 1, c, by omega, by go_num, by go_num, by omega, Lib.hid (by have := HB.out; simpa using this.symm)⟩
        case measure => simp [intOf]; omega
      · go_wp2_with (go_at_call 28; refine HK.out.mono ?_; rintro e w' ⟨rfl, rfl⟩)
        go_round
        case rel => exact ⟨k + 1, c + 1, by omega, by go_num, by go_num, by omega, Lib.hid (by have := HB.out; simpa using this.symm)⟩
        case measure => simp [intOf]; omega
    · go_wp2
      go_ret
      obtain rfl : k = 64 := by omega
      exact ⟨ret_int (by unfold cntS; rw [← HN.out]), rfl⟩

set_option maxHeartbeats 400000 in
theorem rhigh_any (x : Nat) (hx : x < 18446744073709551616) (w : World) :
    Calls Tryd.prog 12 #[.int .u64 (x : Int)] w fun e w' => e = .returned (.int .i64 (hiS x)) ∧ w = w' := by
  go_enter Tryd.func12, Tryd.ntmps12
  go_wp2
  go_loop [3] (fun i => ∃ k : Nat, k ≤ 64 ∧ i = .int .i64 ((k : Int) - 1) ∧ Hid (∀ j, k ≤ j → j < 64 → bitB x j = false)) (fun i => (intOf i + 1).toNat)
  case atStart => exact ⟨64, by omega, rfl, Lib.hid (fun j h1 h2 => by omega)⟩
  case round =>
    obtain ⟨k, hk, rfl, HN⟩ := hrel
    by_cases hlt : 0 < k
    · obtain ⟨i, hi⟩ : ∃ i, i + 1 = k := ⟨k - 1, by omega⟩
      subst hi
      have HK := Lib.hid (bit_any x i hx (by omega) w)
      have HB := Lib.hid (show ∀ v, bitB x i = v → (v = true → hiS x = i) ∧ (v = false → ∀ j, i ≤ j → j < 64 → bitB x j = false) from fun v hv =>
        ⟨fun e => by
          have := bitLen_bit x i hx (by omega) (hv.trans e) (fun j h1 h2 => HN.out j h1 h2)
          unfold hiS; omega,
         fun e j h1 h2 => by
          by_cases he : j = i
          · subst he; exact hv.trans e
          · exact HN.out j (by omega) h2⟩)
      have HB2 := Lib.hid (HB.out _ rfl)
      clear HB
      generalize bitB x i = b at HK HB2
      cases b
      · go_wp2_with (go_at_call 28; refine HK.out.mono ?_; rintro e w' ⟨rfl, rfl⟩)
        go_round
        case rel => exact ⟨i, by omega, by go_num, Lib.hid (HB2.out.2 (by trivial))⟩
        case measure => simp [intOf]
      · go_wp2_with (go_at_call 28; refine HK.out.mono ?_; rintro e w' ⟨rfl, rfl⟩)
        go_ret
        exact ⟨ret_int (HB2.out.1 (by trivial)).symm, rfl⟩
    · obtain rfl : k = 0 := by omega
      have hl := bitLen_none x hx (fun j h => HN.out j (Nat.zero_le _) h)
      have HL := Lib.hid hl
      clear hl
      go_wp2
      go_ret
      exact ⟨ret_int (by unfold hiS; rw [HL.out]; rfl), rfl⟩

theorem spF_step (lo hi : Int) (k : Nat) (hk : k < 64) (c : Nat) (h : c = spF lo hi k) :
    (lo ≤ (k : Int) → (k : Int) < hi → c + 2 ^ k = spF lo hi (k + 1)) ∧ (¬ (lo ≤ (k : Int) ∧ (k : Int) < hi) → c = spF lo hi (k + 1)) ∧ c + 2 ^ k < 18446744073709551616 := by
  have hl := spF_lt lo hi k
  have hp : (2 : Nat) ^ k ≤ 2 ^ 63 := Nat.pow_le_pow_right (by decide) (by omega)
  refine ⟨fun h1 h2 => ?_, fun h1 => ?_, by omega⟩
  · rw [spF, if_pos ⟨h1, h2⟩, h]
  · rw [spF, if_neg h1, h]; rfl

set_option maxHeartbeats 1000000 in
theorem rspan_any (lo hi : Int) (w : World) :
    Calls Tryd.prog 20 #[.int .i64 lo, .int .i64 hi] w fun e w' => e = .returned (.int .u64 (spanS lo hi : Nat)) ∧ w = w' := by
  go_enter Tryd.func20, Tryd.ntmps20
  go_wp2
  go_loop [5, 6] (fun n i => ∃ k c : Nat, k ≤ 64 ∧ i = .int .i64 (k : Int) ∧ n = .int .u64 (c : Int) ∧ c < 18446744073709551616 ∧ Hid (c = spF lo hi k)) (fun _ i => 64 - (intOf i).toNat)
  case atStart => exact ⟨0, 0, by omega, rfl, rfl, by omega, Lib.hid rfl⟩
  case round =>
    obtain ⟨k, c, hk, rfl, rfl, hck, HN⟩ := hrel
    by_cases hlt : k < 64
    · obtain ⟨h1, h2, h3⟩ := spF_step lo hi k hlt c HN.out
      have H1 := Lib.hid h1
      have H2 := Lib.hid h2
      clear h1 h2
      have HK := Lib.hid (power_any k hlt w)
      generalize 2 ^ k = p at H1 h3 HK
      by_cases hlo : lo ≤ (k : Int)
      · by_cases hhi : (k : Int) < hi
        · go_wp2_with (go_at_call 32; refine HK.out.mono ?_; rintro e w' ⟨rfl, rfl⟩)
          go_round
          case rel => exact ⟨k + 1, c + p, by omega, by go_num, by go_num, h3, Lib.hid (H1.out hlo hhi)⟩
          case measure => simp [intOf]; omega
        · have HE := Lib.hid (H2.out (fun h => hhi h.2))
          go_wp2
          go_round
          case rel => exact ⟨k + 1, c, by omega, by go_num, by go_num, hck, HE⟩
          case measure => simp [intOf]; omega
      · have HE := Lib.hid (H2.out (fun h => hlo h.1))
        have hlo' : (k : Int) < lo := by omega
        go_wp2
        go_round
        case rel => exact ⟨k + 1, c, by omega, by go_num, by go_num, hck, HE⟩
        case measure => simp [intOf]; omega
    · obtain rfl : k = 64 := by omega
      go_wp2
      go_ret
      exact ⟨ret_int (by unfold spanS; rw [← HN.out]), rfl⟩

/-! ### Classes and keys -/
/-- The class of a level, by the document. -/
def classS (level levels classes : Int) : Int :=
  if (1 ≤ levels ∧ levels ≤ 64 ∧ 1 ≤ classes ∧ classes ≤ 8) ∧ (0 ≤ level ∧ level < levels) then level * classes / levels else 0

theorem class_walk (level levels classes : Int) (h : (1 ≤ levels ∧ levels ≤ 64 ∧ 1 ≤ classes ∧ classes ≤ 8) ∧ (0 ≤ level ∧ level < levels)) :
    0 ≤ level * classes ∧ level * classes ≤ 512 := by
  obtain ⟨⟨a, b, c, d⟩, e, f⟩ := h
  refine ⟨Int.mul_nonneg e (by omega), ?_⟩
  have : level * classes ≤ 64 * 8 := Int.mul_le_mul (by omega) d (by omega) (by omega)
  omega

set_option maxHeartbeats 1000000 in
theorem class_any (level levels classes : Int) (w : World) :
    Calls Tryd.prog 21 #[.int .i64 level, .int .i64 levels, .int .i64 classes] w fun e w' => e = .returned (.int .i64 (classS level levels classes)) ∧ w = w' := by
  unfold classS
  by_cases h : (1 ≤ levels ∧ levels ≤ 64 ∧ 1 ≤ classes ∧ classes ≤ 8) ∧ (0 ≤ level ∧ level < levels)
  · rw [if_pos h]
    obtain ⟨m0, m1⟩ := class_walk _ _ _ h
    obtain ⟨⟨a, b, c, d⟩, e, f⟩ := h
    have hz : (levels == 0) = false := by simp; omega
    go_enter Tryd.func21, Tryd.ntmps21
    go_wp2
    go_ret
    exact ⟨rfl, rfl⟩
  · rw [if_neg h]
    go_enter Tryd.func21, Tryd.ntmps21
    go_wp2
    all_goals (go_ret; exact ⟨rfl, rfl⟩)

set_option maxHeartbeats 1000000 in
theorem rclass_any (level levels classes : Int) (w : World) :
    Calls Tryd.prog 22 #[.int .i64 level, .int .i64 levels, .int .i64 classes] w fun e w' => e = .returned (.int .i64 (classS level levels classes)) ∧ w = w' := by
  unfold classS
  by_cases h : (1 ≤ levels ∧ levels ≤ 64 ∧ 1 ≤ classes ∧ classes ≤ 8) ∧ (0 ≤ level ∧ level < levels)
  · rw [if_pos h]
    obtain ⟨m0, m1⟩ := class_walk _ _ _ h
    obtain ⟨⟨a, b, c, d⟩, e, f⟩ := h
    have hz : (levels == 0) = false := by simp; omega
    go_enter Tryd.func22, Tryd.ntmps22
    go_wp2
    go_ret
    exact ⟨rfl, rfl⟩
  · rw [if_neg h]
    go_enter Tryd.func22, Tryd.ntmps22
    go_wp2
    all_goals (go_ret; exact ⟨rfl, rfl⟩)

/-- Whether three numbers have a key. -/
def Keyed (d a t : Int) : Prop := (0 ≤ d ∧ d ≤ 16777215) ∧ (0 ≤ a ∧ a ≤ 16777215) ∧ (0 ≤ t ∧ t ≤ 65535)

/-- The key of three numbers. -/
def keyS (d a t : Int) : Int := d * 1099511627776 + a * 65536 + t

theorem or_walk (d a t : Int) (h : Keyed d a t) : bits .or .u64 (bits .or .u64 (d * 1099511627776) (a * 65536)) t = keyS d a t := by
  obtain ⟨⟨d0, d1⟩, ⟨a0, a1⟩, t0, t1⟩ := h
  have w64 : ∀ n : Int, 0 ≤ n → n < 2 ^ 64 → IntKind.u64.wrap n = n := by intro n h0 h1; rw [IntKind.wrap_u64]; omega
  have e1 := bits_join .u64 64 (by decide) w64 40 (d * 1099511627776) (a * 65536) (by omega) (by omega) (by omega) (by omega) (by omega) (by omega)
  have e2 := bits_join .u64 64 (by decide) w64 16 (d * 1099511627776 + a * 65536) t (by omega) (by omega) (by omega) (by omega) (by omega) (by omega)
  rw [e1, e2]
  rfl

set_option maxHeartbeats 1000000 in
theorem pack_ok (d a t : Int) (h : Keyed d a t) (w : World) :
    Calls Tryd.prog 23 #[.int .i64 d, .int .i64 a, .int .i64 t] w fun e w' => e = .returned (.tuple #[.int .u64 (keyS d a t), .bool true]) ∧ w = w' := by
  have key := or_walk d a t h
  generalize keyS d a t = k at key ⊢
  obtain ⟨⟨d0, d1⟩, ⟨a0, a1⟩, t0, t1⟩ := h
  go_enter Tryd.func23, Tryd.ntmps23
  go_wp2
  go_ret2
  exact ⟨rfl, rfl⟩

set_option maxHeartbeats 1000000 in
theorem pack_no (d a t : Int) (h : ¬ Keyed d a t) (w : World) :
    Calls Tryd.prog 23 #[.int .i64 d, .int .i64 a, .int .i64 t] w fun e w' => e = .returned (.tuple #[.int .u64 0, .bool false]) ∧ w = w' := by
  unfold Keyed at h
  by_cases hd : 0 ≤ d ∧ d ≤ 16777215
  · by_cases ha : 0 ≤ a ∧ a ≤ 16777215
    · have ht : ¬ (0 ≤ t ∧ t ≤ 65535) := fun c => h ⟨hd, ha, c⟩
      clear h
      obtain ⟨d0, d1⟩ := hd
      obtain ⟨a0, a1⟩ := ha
      by_cases t0 : t < 0
      · clear ht
        go_enter Tryd.func23, Tryd.ntmps23
        go_wp2
        go_ret2
        exact ⟨rfl, rfl⟩
      · have t1 : 65535 < t := by omega
        clear ht
        go_enter Tryd.func23, Tryd.ntmps23
        go_wp2
        go_ret2
        exact ⟨rfl, rfl⟩
    · clear h
      obtain ⟨d0, d1⟩ := hd
      by_cases a0 : a < 0
      · clear ha
        go_enter Tryd.func23, Tryd.ntmps23
        go_wp2
        go_ret2
        exact ⟨rfl, rfl⟩
      · have a1 : 16777215 < a := by omega
        clear ha
        go_enter Tryd.func23, Tryd.ntmps23
        go_wp2
        go_ret2
        exact ⟨rfl, rfl⟩
  · clear h
    by_cases d0 : d < 0
    · clear hd
      go_enter Tryd.func23, Tryd.ntmps23
      go_wp2
      go_ret2
      exact ⟨rfl, rfl⟩
    · have d1 : 16777215 < d := by omega
      clear hd
      go_enter Tryd.func23, Tryd.ntmps23
      go_wp2
      go_ret2
      exact ⟨rfl, rfl⟩

set_option maxHeartbeats 1000000 in
theorem rpack_ok (d a t : Int) (h : Keyed d a t) (w : World) :
    Calls Tryd.prog 24 #[.int .i64 d, .int .i64 a, .int .i64 t] w fun e w' => e = .returned (.tuple #[.int .u64 (keyS d a t), .bool true]) ∧ w = w' := by
  obtain ⟨⟨d0, d1⟩, ⟨a0, a1⟩, t0, t1⟩ := h
  have p24 : Hid (∀ w, Calls Tryd.prog 32 #[.int .i64 24] w fun e w' => e = .returned (.int .u64 16777216) ∧ w = w') := Lib.hid (fun w => power_any 24 (by decide) w)
  have p16 : Hid (∀ w, Calls Tryd.prog 32 #[.int .i64 16] w fun e w' => e = .returned (.int .u64 65536) ∧ w = w') := Lib.hid (fun w => power_any 16 (by decide) w)
  have key : (d * 16777216 + a) * 65536 + t = keyS d a t := by unfold keyS; omega
  generalize keyS d a t = k at key ⊢
  go_enter Tryd.func24, Tryd.ntmps24
  go_wp2_with fail
  refine (p24.out _).mono ?_
  rintro e w' ⟨rfl, rfl⟩
  go_wp2_with fail
  refine (p16.out _).mono ?_
  rintro e w' ⟨rfl, rfl⟩
  go_wp2
  go_ret2
  exact ⟨rfl, rfl⟩

set_option maxHeartbeats 1000000 in
theorem rpack_no (d a t : Int) (h : ¬ Keyed d a t) (w : World) :
    Calls Tryd.prog 24 #[.int .i64 d, .int .i64 a, .int .i64 t] w fun e w' => e = .returned (.tuple #[.int .u64 0, .bool false]) ∧ w = w' := by
  unfold Keyed at h
  go_enter Tryd.func24, Tryd.ntmps24
  go_wp2
  all_goals (go_ret2; exact ⟨rfl, rfl⟩)

end Go.Proofs.YtdjefedlnhfpbaaDoor
