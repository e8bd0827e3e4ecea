/-
  The contracts of the reference's words (workstealref01) alone. (Taken out of XCallsA .. XCallsD; with ret_int named reti.)
-/
import Derived.Test.YtheimjcgpbmecaaGreatMgAI
import Derived.Test.YtheimjcgpbmecaaGreatMgAC
import Derived.WalkSpells
import Derived.Lib.Hide
import Derived.Deep.QuietTactic
import Derived.BigQuiet
import Derived.Outline
namespace Go.Proofs.YtheimjcgpbmecaaGreat
open Go Go.RowKit

set_option maxHeartbeats 1000000 in
theorem rnth_pos (x : Nat) (n : Int) (hx : x < 18446744073709551616) (h0 : 0 ≤ n) (h1 : n ≤ 9223372036854775807) (w : World) :
    Calls Tryz.prog 164 #[.int .u64 (x : Int), .int .i64 n] w fun e w' => e = .returned (.int .i64 (nthF x 64 n)) ∧ w = w' := by
  obtain ⟨R, hR⟩ : ∃ R, R = nthF x 64 n := ⟨_, rfl⟩
  rw [← hR]
  have HR := Lib.hid hR
  clear hR
  go_enter Tryz.func164, Tryz.ntmps164
  go_wp2
  go_loop [1, 5] (fun m i => ∃ (k : Nat) (c : Int), k ≤ 64 ∧ i = .int .i64 (k : Int) ∧ m = .int .i64 c ∧ 0 ≤ c ∧ c ≤ 9223372036854775807 ∧ Hid (nthF x (64 - k) c = R)) (fun _ i => 64 - (intOf i).toNat)
  case atStart => exact ⟨0, n, by omega, rfl, rfl, h0, h1, Lib.hid HR.out.symm⟩
  case round =>
    obtain ⟨k, c, hk, rfl, rfl, hc0, hc1, HN⟩ := hrel
    by_cases hlt : k < 64
    · have hn := HN.out
      rw [show 64 - k = (63 - k) + 1 by omega, nthF, show 63 - (63 - k) = k by omega] at hn
      have HB := Lib.hid hn
      clear hn
      have HK := Lib.hid (bit_any x k hx hlt w)
      generalize bitB x k = b at HB HK
      cases b
      · have HB2 := Lib.hid (show nthF x (63 - k) c = R from by have := HB.out; simpa using this)
        clear HB
        go_wp2_with (go_at_call 138; refine HK.out.mono ?_; rintro e w' ⟨rfl, rfl⟩)
        go_round
        case rel => exact ⟨k + 1, c, by omega, by go_num, by go_num, hc0, hc1, Lib.hid (by rw [show 64 - (k + 1) = 63 - k by omega]; exact HB2.out)⟩
        case measure => simp [intOf]; omega
      · have HB2 := Lib.hid (show (if c = 0 then (k : Int) else nthF x (63 - k) (c - 1)) = R from by have := HB.out; simpa using this)
        clear HB
        by_cases hz : c = 0
        · subst hz
          go_wp2_with (go_at_call 138; refine HK.out.mono ?_; rintro e w' ⟨rfl, rfl⟩)
          go_ret
          exact ⟨reti (by have := HB2.out; simpa using this), rfl⟩
        · rw [if_neg hz] at HB2
          have hz' : (c == 0) = false := by simpa using hz
          have hpos : 1 ≤ c := by omega
          go_wp2_with (go_at_call 138; refine HK.out.mono ?_; rintro e w' ⟨rfl, rfl⟩)
          go_round
          case rel => exact ⟨k + 1, c - 1, by omega, by go_num, by go_num, by omega, by omega, Lib.hid (by rw [show 64 - (k + 1) = 63 - k by omega]; exact HB2.out)⟩
          case measure => simp [intOf]; omega
    · go_wp2
      go_ret
      exact ⟨reti (by have := HN.out; rw [show 64 - k = 0 by omega] at this; exact this), rfl⟩

theorem neg_step (c : Int) (k : Nat) (hk : k < 64) (h : (-9223372036854775808 ≤ c ∧ c < 0) ∨ (9223372036854775807 - (k : Int) ≤ c ∧ c ≤ 9223372036854775807)) :
    (-9223372036854775808 ≤ wrap64 (c - 1) ∧ wrap64 (c - 1) < 0) ∨ (9223372036854775807 - ((k + 1 : Nat) : Int) ≤ wrap64 (c - 1) ∧ wrap64 (c - 1) ≤ 9223372036854775807) := by
  unfold wrap64; omega

/-- What is left of a negative count: never 0, although it may wrap. -/
def Neg (k : Nat) (c : Int) : Prop := (-9223372036854775808 ≤ c ∧ c < 0) ∨ (9223372036854775807 - (k : Int) ≤ c ∧ c ≤ 9223372036854775807)

set_option maxHeartbeats 1000000 in
theorem rnth_neg (x : Nat) (n : Int) (hx : x < 18446744073709551616) (h0 : n < 0) (h1 : -9223372036854775808 ≤ n) (w : World) :
    Calls Tryz.prog 164 #[.int .u64 (x : Int), .int .i64 n] w fun e w' => e = .returned (.int .i64 (-1)) ∧ w = w' := by
  have HN0 : Neg 0 n := Or.inl ⟨h1, h0⟩
  clear h0 h1
  go_enter Tryz.func164, Tryz.ntmps164
  go_wp2
  go_loop [1, 5] (fun m i => ∃ (k : Nat) (c : Int), k ≤ 64 ∧ i = .int .i64 (k : Int) ∧ m = .int .i64 c ∧ Neg k c) (fun _ i => 64 - (intOf i).toNat)
  case atStart => exact ⟨0, n, by omega, rfl, rfl, HN0⟩
  case round =>
    obtain ⟨k, c, hk, rfl, rfl, HN⟩ := hrel
    by_cases hlt : k < 64
    · have HK := Lib.hid (bit_any x k hx hlt w)
      have hz' : (c == 0) = false := by unfold Neg at HN; simp; omega
      have HS : Neg (k + 1) (wrap64 (c - 1)) := neg_step c k hlt HN
      have HT : Neg (k + 1) c := by unfold Neg at HN ⊢; omega
      generalize bitB x k = b at HK
      cases b
      · go_wp2_with (go_at_call 138; refine HK.out.mono ?_; rintro e w' ⟨rfl, rfl⟩)
        go_round
        case rel => exact ⟨k + 1, c, by omega, by go_num, by go_num, HT⟩
        case measure => simp [intOf]; omega
      · go_wp2_with (go_at_call 138; refine HK.out.mono ?_; rintro e w' ⟨rfl, rfl⟩)
        go_round
        case rel => exact ⟨k + 1, wrap64 (c - 1), by omega, by go_num, by first | rfl | go_num, HS⟩
        case measure => simp [intOf]; omega
    · go_wp2
      go_ret
      exact ⟨rfl, rfl⟩

theorem rnth_any (x : Nat) (n : Int) (hx : x < 18446744073709551616) (h0 : -9223372036854775808 ≤ n) (h1 : n ≤ 9223372036854775807) (w : World) :
    Calls Tryz.prog 164 #[.int .u64 (x : Int), .int .i64 n] w fun e w' => e = .returned (.int .i64 (nthS x n)) ∧ w = w' := by
  unfold nthS
  by_cases h : n < 0
  · rw [if_pos h]; exact rnth_neg x n hx h h0 w
  · rw [if_neg h]; exact rnth_pos x n hx (by omega) h1 w

set_option maxHeartbeats 400000 in
theorem rlow_any (x : Nat) (hx : x < 18446744073709551616) (w : World) :
    Calls Tryz.prog 154 #[.int .u64 (x : Int)] w fun e w' => e = .returned (.int .i64 (loS x)) ∧ w = w' := by
  have h := rnth_pos x 0 hx (by decide) (by decide) w
  rw [nth_zero_low x hx] at h
  have H := Lib.hid h
  clear h
  go_enter Tryz.func154, Tryz.ntmps154
  go_wp2_with (go_at_call 164; refine H.out.mono ?_; rintro e w' ⟨rfl, rfl⟩)
  go_ret
  exact ⟨rfl, rfl⟩

set_option maxHeartbeats 400000 in
theorem rhigh_any (x : Nat) (hx : x < 18446744073709551616) (w : World) :
    Calls Tryz.prog 105 #[.int .u64 (x : Int)] w fun e w' => e = .returned (.int .i64 (hiS x)) ∧ w = w' := by
  go_enter Tryz.func105, Tryz.ntmps105
  go_wp2
  go_loop [3] (fun i => ∃ k : Nat, k ≤ 64 ∧ i = .int .i64 ((k : Int) - 1) ∧ Hid (∀ j, k ≤ j → j < 64 → bitB x j = false)) (fun i => (intOf i + 1).toNat)
  case atStart => exact ⟨64, by omega, rfl, Lib.hid (fun j h1 h2 => by omega)⟩
  case round =>
    obtain ⟨k, hk, rfl, HN⟩ := hrel
    by_cases hlt : 0 < k
    · obtain ⟨i, hi⟩ : ∃ i, i + 1 = k := ⟨k - 1, by omega⟩
      subst hi
      have HK := Lib.hid (bit_any x i hx (by omega) w)
      have HB := Lib.hid (show ∀ v, bitB x i = v → (v = true → hiS x = i) ∧ (v = false → ∀ j, i ≤ j → j < 64 → bitB x j = false) from fun v hv =>
        ⟨fun e => by
          have := bitLen_bit x i hx (by omega) (hv.trans e) (fun j h1 h2 => HN.out j h1 h2)
          unfold hiS; omega,
         fun e j h1 h2 => by
          by_cases he : j = i
          · subst he; exact hv.trans e
          · exact HN.out j (by omega) h2⟩)
      have HB2 := Lib.hid (HB.out _ rfl)
      clear HB
      generalize bitB x i = b at HK HB2
      cases b
      · go_wp2_with (go_at_call 138; refine HK.out.mono ?_; rintro e w' ⟨rfl, rfl⟩)
        go_round
        case rel => exact ⟨i, by omega, by go_num, Lib.hid (HB2.out.2 (by trivial))⟩
        case measure => simp [intOf]
      · go_wp2_with (go_at_call 138; refine HK.out.mono ?_; rintro e w' ⟨rfl, rfl⟩)
        go_ret
        exact ⟨reti (HB2.out.1 (by trivial)).symm, rfl⟩
    · obtain rfl : k = 0 := by omega
      have hl := bitLen_none x hx (fun j h => HN.out j (Nat.zero_le _) h)
      have HL := Lib.hid hl
      clear hl
      go_wp2
      go_ret
      exact ⟨reti (by unfold hiS; rw [HL.out]; rfl), rfl⟩

/-- The class of a level, by the document. -/
def classS (level levels classes : Int) : Int :=
  if (1 ≤ levels ∧ levels ≤ 64 ∧ 1 ≤ classes ∧ classes ≤ 8) ∧ (0 ≤ level ∧ level < levels) then level * classes / levels else 0

theorem class_walk (level levels classes : Int) (h : (1 ≤ levels ∧ levels ≤ 64 ∧ 1 ≤ classes ∧ classes ≤ 8) ∧ (0 ≤ level ∧ level < levels)) :
    0 ≤ level * classes ∧ level * classes ≤ 512 := by
  obtain ⟨⟨a, b, c, d⟩, e, f⟩ := h
  refine ⟨Int.mul_nonneg e (by omega), ?_⟩
  have : level * classes ≤ 64 * 8 := Int.mul_le_mul (by omega) d (by omega) (by omega)
  omega

set_option maxHeartbeats 1000000 in
theorem rclass_any (level levels classes : Int) (w : World) :
    Calls Tryz.prog 153 #[.int .i64 level, .int .i64 levels, .int .i64 classes] w fun e w' => e = .returned (.int .i64 (classS level levels classes)) ∧ w = w' := by
  unfold classS
  by_cases h : (1 ≤ levels ∧ levels ≤ 64 ∧ 1 ≤ classes ∧ classes ≤ 8) ∧ (0 ≤ level ∧ level < levels)
  · rw [if_pos h]
    obtain ⟨m0, m1⟩ := class_walk _ _ _ h
    obtain ⟨⟨a, b, c, d⟩, e, f⟩ := h
    have hz : (levels == 0) = false := by simp; omega
    go_enter Tryz.func153, Tryz.ntmps153
    go_wp2
    go_ret
    exact ⟨rfl, rfl⟩
  · rw [if_neg h]
    go_enter Tryz.func153, Tryz.ntmps153
    go_wp2
    all_goals (go_ret; exact ⟨rfl, rfl⟩)

/-- Whether three numbers have a key. -/
def Keyed (d a t : Int) : Prop := (0 ≤ d ∧ d ≤ 16777215) ∧ (0 ≤ a ∧ a ≤ 16777215) ∧ (0 ≤ t ∧ t ≤ 65535)

/-- The key of three numbers. -/
def keyS (d a t : Int) : Int := d * 1099511627776 + a * 65536 + t

set_option maxHeartbeats 1000000 in
theorem rpack_ok (d a t : Int) (h : Keyed d a t) (w : World) :
    Calls Tryz.prog 139 #[.int .i64 d, .int .i64 a, .int .i64 t] w fun e w' => e = .returned (.tuple #[.int .u64 (keyS d a t), .bool true]) ∧ w = w' := by
  obtain ⟨⟨d0, d1⟩, ⟨a0, a1⟩, t0, t1⟩ := h
  have p24 : Hid (∀ w, Calls Tryz.prog 136 #[.int .i64 24] w fun e w' => e = .returned (.int .u64 16777216) ∧ w = w') := Lib.hid (fun w => power_any 24 (by decide) w)
  have p16 : Hid (∀ w, Calls Tryz.prog 136 #[.int .i64 16] w fun e w' => e = .returned (.int .u64 65536) ∧ w = w') := Lib.hid (fun w => power_any 16 (by decide) w)
  have key : (d * 16777216 + a) * 65536 + t = keyS d a t := by unfold keyS; omega
  generalize keyS d a t = k at key ⊢
  go_enter Tryz.func139, Tryz.ntmps139
  go_wp2_with fail
  refine (p24.out _).mono ?_
  rintro e w' ⟨rfl, rfl⟩
  go_wp2_with fail
  refine (p16.out _).mono ?_
  rintro e w' ⟨rfl, rfl⟩
  go_wp2
  go_ret2
  exact ⟨rfl, rfl⟩

set_option maxHeartbeats 1000000 in
theorem rpack_no (d a t : Int) (h : ¬ Keyed d a t) (w : World) :
    Calls Tryz.prog 139 #[.int .i64 d, .int .i64 a, .int .i64 t] w fun e w' => e = .returned (.tuple #[.int .u64 0, .bool false]) ∧ w = w' := by
  unfold Keyed at h
  go_enter Tryz.func139, Tryz.ntmps139
  go_wp2
  all_goals (go_ret2; exact ⟨rfl, rfl⟩)


theorem ret_ints3 {a b c a' b' c' : Int} (h : a = a') (h' : b = b') (h'' : c = c') : Ending.returned (.tuple #[.int .i64 a, .int .i64 b, .int .i64 c]) = .returned (.tuple #[.int .i64 a', .int .i64 b', .int .i64 c']) := by rw [h, h', h'']

theorem unpack_k1 (x : Nat) : wrap64 (IntKind.u64.wrap ((x : Int) * 16777216) / 1099511627776) = (x : Int) / 65536 % 16777216 := by
  rw [IntKind.wrap_u64]
  unfold wrap64
  omega

theorem unpack_k2 (x : Nat) : wrap64 (IntKind.u16.wrap (x : Int)) = (x : Int) % 65536 := by
  have e : IntKind.u16.wrap (x : Int) = (x : Int) % 65536 := by simp [IntKind.wrap, IntKind.bits, IntKind.signed]
  rw [e]
  unfold wrap64
  omega

set_option maxHeartbeats 1000000 in
theorem runpack_any (x : Nat) (hx : x < 18446744073709551616) (w : World) :
    Calls Tryz.prog 142 #[.int .u64 (x : Int)] w fun e w' => ∃ n, e = .returned (.tuple #[.int .i64 ((x : Int) / 1099511627776), .int .i64 ((x : Int) / 65536 % 16777216), .int .i64 ((x : Int) % 65536)]) ∧ w' = w.drewN n := by
  have p40 : Hid (∀ w, Calls Tryz.prog 136 #[.int .i64 40] w fun e w' => e = .returned (.int .u64 1099511627776) ∧ w' = w) := Lib.hid (fun w => (power_any 40 (by decide) w).mono fun e w' h => ⟨h.1, h.2.symm⟩)
  have p24 : Hid (∀ w, Calls Tryz.prog 136 #[.int .i64 24] w fun e w' => e = .returned (.int .u64 16777216) ∧ w' = w) := Lib.hid (fun w => (power_any 24 (by decide) w).mono fun e w' h => ⟨h.1, h.2.symm⟩)
  have p16 : Hid (∀ w, Calls Tryz.prog 136 #[.int .i64 16] w fun e w' => e = .returned (.int .u64 65536) ∧ w' = w) := Lib.hid (fun w => (power_any 16 (by decide) w).mono fun e w' h => ⟨h.1, h.2.symm⟩)
  go_enter Tryz.func142, Tryz.ntmps142
  go_wp2
  go_quiet ((first | (go_at_call 136; with_reducible exact Calls.quiet_of_same (p40.out _)) | (go_at_call 136; with_reducible exact Calls.quiet_of_same (p24.out _)) | (go_at_call 136; with_reducible exact Calls.quiet_of_same (p16.out _))))
  go_wp2
  go_ret3
  exact ⟨nq, rfl, rfl⟩

end Go.Proofs.YtheimjcgpbmecaaGreat
