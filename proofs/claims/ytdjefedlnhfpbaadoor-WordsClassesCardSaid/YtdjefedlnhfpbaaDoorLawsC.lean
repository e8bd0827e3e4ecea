/-
  The walk of the statement WordsClasses: it returns true.
-/
import Derived.Test.YtdjefedlnhfpbaaDoorLawsB
namespace Go.Proofs.YtdjefedlnhfpbaaDoor
open Go Go.RowKit

theorem cls_step (m c L : Int) (hL : 0 < L) (hc : 0 ≤ c) (hcL : c ≤ L) : m / L ≤ (m + c) / L ∧ (m + c) / L ≤ m / L + 1 := by
  refine ⟨Int.ediv_le_ediv hL (by omega), ?_⟩
  have h := Int.ediv_le_ediv hL (show m + c ≤ m + 1 * L by omega)
  rw [Int.add_mul_ediv_right _ _ (by omega)] at h
  exact h

theorem cls_last (c L : Int) (hL : 0 < L) (hc : 1 ≤ c) (hcL : c ≤ L) : (L - 1) * c / L = c - 1 := by
  have e : (L - 1) * c = (L - c) + (c - 1) * L := by
    rw [Int.sub_mul, Int.sub_mul, Int.mul_comm L c]
    omega
  rw [e, Int.add_mul_ediv_right _ _ (by omega), Int.ediv_eq_zero_of_lt (by omega) (by omega)]
  omega

/-- The class of the level before k; 0 before the first. -/
def lastC (L c : Int) (k : Nat) : Int := if k = 0 then 0 else ((k : Int) - 1) * c / L

theorem lastC_step (L c : Int) (k : Nat) (hL : 1 ≤ L) (hL' : L ≤ 64) (hc : 1 ≤ c) (hc8 : c ≤ 8) (hcL : c ≤ L) (hk : (k : Int) < L) (v : Int) (hv : v = lastC L c k) :
    ∃ x, classS k L c = x ∧ x = lastC L c (k + 1) ∧ v ≤ x ∧ x ≤ v + 1 ∧ 0 ≤ x ∧ x ≤ 512 := by
  have hcl : classS k L c = (k : Int) * c / L := by unfold classS; rw [if_pos ⟨⟨hL, hL', hc, hc8⟩, by omega, hk⟩]
  have hw := class_walk k L c ⟨⟨hL, hL', hc, hc8⟩, by omega, hk⟩
  have h0 : 0 ≤ (k : Int) * c / L := Int.ediv_nonneg hw.1 (by omega)
  have h1 : (k : Int) * c / L ≤ 512 := Int.le_trans (Int.ediv_le_self _ hw.1) hw.2
  refine ⟨_, rfl, ?_, ?_, ?_, by rw [hcl]; exact h0, by rw [hcl]; exact h1⟩
  · rw [hcl]
    unfold lastC
    rw [if_neg (by omega), show ((k + 1 : Nat) : Int) - 1 = k by omega]
  · rw [hcl, hv]
    unfold lastC
    split
    · exact h0
    · have := (cls_step (((k : Int) - 1) * c) c L (by omega) (by omega) hcL).1
      rw [show ((k : Int) - 1) * c + c = (k : Int) * c by rw [Int.sub_mul]; omega] at this
      exact this
  · rw [hcl, hv]
    unfold lastC
    split
    · rename_i e
      subst e
      simp
    · have := (cls_step (((k : Int) - 1) * c) c L (by omega) (by omega) hcL).2
      rw [show ((k : Int) - 1) * c + c = (k : Int) * c by rw [Int.sub_mul]; omega] at this
      exact this

theorem lastC_end (L c : Int) (k : Nat) (hL : 1 ≤ L) (hc : 1 ≤ c) (hcL : c ≤ L) (hk : (k : Int) = L) : lastC L c k = c - 1 := by
  unfold lastC
  rw [if_neg (by omega), hk]
  exact cls_last c L (by omega) hc hcL

theorem class_zero (L c : Int) : classS 0 L c = 0 := by
  unfold classS
  split <;> simp

set_option maxHeartbeats 2000000 in
theorem classes_far (v L c : Int) (hL : 1 ≤ L) (hL' : L ≤ 64) (hc : 1 ≤ c) (hc8 : c ≤ 8) (hcL : c ≤ L) (w : World) (hT : Tab w) :
    Calls Tryd.prog 7 #[.int .i64 v, .int .i64 L, .int .i64 c, .bool false] w fun e w' => e = .returned (.bool true) ∧ w = w' := by
  have HA := Lib.hid (awake_any w hT)
  clear hT
  go_enter Tryd.func7, Tryd.ntmps7
  go_wp2_with fail
  refine HA.out.mono ?_
  rintro e w' ⟨rfl, rfl⟩
  go_wp2_with fail
  refine (class_any _ _ _ _).mono ?_
  rintro e w' ⟨rfl, rfl⟩
  go_wp2_with fail
  refine (rclass_any _ _ _ _).mono ?_
  rintro e w' ⟨rfl, rfl⟩
  go_wp2
  go_loop [9, 10] (fun l i => ∃ (k : Nat) (u : Int), (k : Int) ≤ L ∧ i = .int .i64 (k : Int) ∧ l = .int .i64 u ∧ 0 ≤ u ∧ u ≤ 512 ∧ Hid (u = lastC L c k)) (fun _ i => (L - intOf i).toNat)
  case atStart => exact ⟨0, 0, by omega, rfl, rfl, by omega, by omega, Lib.hid rfl⟩
  case round =>
    obtain ⟨k, u, hk, rfl, rfl, u0, u1, HU⟩ := hrel
    by_cases hlt : (k : Int) < L
    · obtain ⟨x, hx, hx', x0, x1, x2, x3⟩ := lastC_step L c k hL hL' hc hc8 hcL hlt u HU.out
      have HC := Lib.hid (class_any k L c w)
      rw [hx] at HC
      have HX := Lib.hid hx'
      clear hx hx'
      go_wp2_with fail
      refine HC.out.mono ?_
      rintro e w' ⟨rfl, rfl⟩
      go_wp2
      go_round
      case rel => exact ⟨k + 1, x, by omega, by go_num, by go_num, x2, x3, HX⟩
      case measure => simp [intOf]; omega
    · have he : (k : Int) = L := by omega
      have HE := Lib.hid (lastC_end L c k hL hc hcL he)
      have HU2 := Lib.hid (HU.out.trans HE.out)
      have HC := Lib.hid (class_any 0 L c w)
      rw [class_zero] at HC
      clear hk
      obtain rfl : u = c - 1 := HU2.out
      have HEq := Lib.hid he
      have hle : L ≤ (k : Int) := by omega
      clear he
      go_wp2_with fail
      refine HC.out.mono ?_
      rintro e w' ⟨rfl, rfl⟩
      go_wp2
      go_ret
      exact ⟨rfl, rfl⟩
set_option maxHeartbeats 2000000 in
theorem classes_quick (v L c : Int) (h : ¬ (1 ≤ L ∧ L ≤ 64 ∧ 1 ≤ c ∧ c ≤ L ∧ c ≤ 8)) (w : World) (hT : Tab w) :
    Calls Tryd.prog 7 #[.int .i64 v, .int .i64 L, .int .i64 c, .bool false] w fun e w' => e = .returned (.bool true) ∧ w = w' := by
  have HA := Lib.hid (awake_any w hT)
  clear hT
  have H := Lib.hid h
  clear h
  go_enter Tryd.func7, Tryd.ntmps7
  go_wp2_with fail
  refine HA.out.mono ?_
  rintro e w' ⟨rfl, rfl⟩
  go_wp2_with fail
  refine (class_any _ _ _ _).mono ?_
  rintro e w' ⟨rfl, rfl⟩
  go_wp2_with fail
  refine (rclass_any _ _ _ _).mono ?_
  rintro e w' ⟨rfl, rfl⟩
  by_cases h1 : L < 1
  · go_wp2
    go_ret
    exact ⟨rfl, rfl⟩
  by_cases h2 : 64 < L
  · go_wp2
    go_ret
    exact ⟨rfl, rfl⟩
  by_cases h3 : c < 1
  · go_wp2
    go_ret
    exact ⟨rfl, rfl⟩
  by_cases h4 : L < c
  · go_wp2
    go_ret
    exact ⟨rfl, rfl⟩
  have h5 : 8 < c := by
    have := H.out
    omega
  clear H
  go_wp2
  go_ret
  exact ⟨rfl, rfl⟩

set_option maxHeartbeats 2000000 in
theorem classes_near (v0 L0 c0 v L c : Int) (hv : (v0.tmod 70 + 70) % 70 = v + 3) (hv' : v0.tmod 70 % 70 = v + 3) (hL1 : (L0.tmod 64 + 64) % 64 = L - 1) (hL1' : L0.tmod 64 % 64 = L - 1) (hc1 : (c0.tmod 8 + 8) % 8 = c - 1) (hc1' : c0.tmod 8 % 8 = c - 1)
    (hL : 1 ≤ L) (hL' : L ≤ 64) (hc : 1 ≤ c) (hc8 : c ≤ 8) (hcL : c ≤ L) (w : World) (hT : Tab w) :
    Calls Tryd.prog 7 #[.int .i64 v0, .int .i64 L0, .int .i64 c0, .bool true] w fun e w' => e = .returned (.bool true) ∧ w = w' := by
  have HA := Lib.hid (awake_any w hT)
  clear hT
  obtain ⟨q0, q1⟩ := tmod_bd v0 70 (by decide)
  obtain ⟨r0, r1⟩ := tmod_bd L0 64 (by decide)
  obtain ⟨t0, t1⟩ := tmod_bd c0 8 (by decide)
  have z1 : 1 + (L - 1) = L := by omega
  have z2 : 1 + (c - 1) = c := by omega
  have z3 : v + 3 - 3 = v := by omega
  have y1 : 0 ≤ L - 1 := by omega
  have y2 : 0 ≤ c - 1 := by omega
  have y3 : 0 ≤ v + 3 := by omega
  have y4 : v + 3 ≤ 69 := by omega
  go_enter Tryd.func7, Tryd.ntmps7
  go_wp2_with fail
  refine HA.out.mono ?_
  rintro e w' ⟨rfl, rfl⟩
  go_wp2_with fail
  refine (class_any _ _ _ _).mono ?_
  rintro e w' ⟨rfl, rfl⟩
  go_wp2_with fail
  refine (rclass_any _ _ _ _).mono ?_
  rintro e w' ⟨rfl, rfl⟩
  go_wp2
  go_loop [9, 10] (fun l i => ∃ (k : Nat) (u : Int), (k : Int) ≤ L ∧ i = .int .i64 (k : Int) ∧ l = .int .i64 u ∧ 0 ≤ u ∧ u ≤ 512 ∧ Hid (u = lastC L c k)) (fun _ i => (L - intOf i).toNat)
  case atStart => exact ⟨0, 0, by omega, rfl, rfl, by omega, by omega, Lib.hid rfl⟩
  case round =>
    obtain ⟨k, u, hk, rfl, rfl, u0, u1, HU⟩ := hrel
    by_cases hlt : (k : Int) < L
    · obtain ⟨x, hx, hx', x0, x1, x2, x3⟩ := lastC_step L c k hL hL' hc hc8 hcL hlt u HU.out
      have HC := Lib.hid (class_any k L c w)
      rw [hx] at HC
      have HX := Lib.hid hx'
      clear hx hx'
      go_wp2_with fail
      refine HC.out.mono ?_
      rintro e w' ⟨rfl, rfl⟩
      go_wp2
      go_round
      case rel => exact ⟨k + 1, x, by omega, by go_num, by go_num, x2, x3, HX⟩
      case measure => simp [intOf]; omega
    · have he : (k : Int) = L := by omega
      have HE := Lib.hid (lastC_end L c k hL hc hcL he)
      have HU2 := Lib.hid (HU.out.trans HE.out)
      have HC := Lib.hid (class_any 0 L c w)
      rw [class_zero] at HC
      clear hk
      obtain rfl : u = c - 1 := HU2.out
      have HEq := Lib.hid he
      have hle : L ≤ (k : Int) := by omega
      clear he
      go_wp2_with fail
      refine HC.out.mono ?_
      rintro e w' ⟨rfl, rfl⟩
      go_wp2
      go_ret
      exact ⟨rfl, rfl⟩
set_option maxHeartbeats 2000000 in
theorem classes_near_quick (v0 L0 c0 v L c : Int) (hv : (v0.tmod 70 + 70) % 70 = v + 3) (hv' : v0.tmod 70 % 70 = v + 3) (hL1 : (L0.tmod 64 + 64) % 64 = L - 1) (hL1' : L0.tmod 64 % 64 = L - 1) (hc1 : (c0.tmod 8 + 8) % 8 = c - 1) (hc1' : c0.tmod 8 % 8 = c - 1)
    (hL : 1 ≤ L) (hL' : L ≤ 64) (hc : 1 ≤ c) (_hc8 : c ≤ 8) (hcL : L < c) (w : World) (hT : Tab w) :
    Calls Tryd.prog 7 #[.int .i64 v0, .int .i64 L0, .int .i64 c0, .bool true] w fun e w' => e = .returned (.bool true) ∧ w = w' := by
  have HA := Lib.hid (awake_any w hT)
  clear hT
  obtain ⟨q0, q1⟩ := tmod_bd v0 70 (by decide)
  obtain ⟨r0, r1⟩ := tmod_bd L0 64 (by decide)
  obtain ⟨t0, t1⟩ := tmod_bd c0 8 (by decide)
  have z1 : 1 + (L - 1) = L := by omega
  have z2 : 1 + (c - 1) = c := by omega
  have z3 : v + 3 - 3 = v := by omega
  have y1 : 0 ≤ L - 1 := by omega
  have y2 : 0 ≤ c - 1 := by omega
  have y3 : 0 ≤ v + 3 := by omega
  have y4 : v + 3 ≤ 69 := by omega
  go_enter Tryd.func7, Tryd.ntmps7
  go_wp2_with fail
  refine HA.out.mono ?_
  rintro e w' ⟨rfl, rfl⟩
  go_wp2_with fail
  refine (class_any _ _ _ _).mono ?_
  rintro e w' ⟨rfl, rfl⟩
  go_wp2_with fail
  refine (rclass_any _ _ _ _).mono ?_
  rintro e w' ⟨rfl, rfl⟩
  go_wp2
  go_ret
  exact ⟨rfl, rfl⟩

theorem classes_law (v L c : Int) (near : Bool) (w : World) (hT : Tab w) :
    Calls Tryd.prog 7 #[.int .i64 v, .int .i64 L, .int .i64 c, .bool near] w fun e w' => e = .returned (.bool true) ∧ w = w' := by
  cases near
  · by_cases h : 1 ≤ L ∧ L ≤ 64 ∧ 1 ≤ c ∧ c ≤ L ∧ c ≤ 8
    · exact classes_far v L c h.1 h.2.1 h.2.2.1 h.2.2.2.2 h.2.2.2.1 w hT
    · exact classes_quick v L c h w hT
  · have e1 : (v.tmod 70 + 70) % 70 = v.tmod 70 % 70 := by omega
    have e2 : (L.tmod 64 + 64) % 64 = L.tmod 64 % 64 := by omega
    have e3 : (c.tmod 8 + 8) % 8 = c.tmod 8 % 8 := by omega
    have a1 : v.tmod 70 % 70 = (v.tmod 70 % 70 - 3) + 3 := by omega
    have a2 : L.tmod 64 % 64 = (L.tmod 64 % 64 + 1) - 1 := by omega
    have a3 : c.tmod 8 % 8 = (c.tmod 8 % 8 + 1) - 1 := by omega
    by_cases h : c.tmod 8 % 8 + 1 ≤ L.tmod 64 % 64 + 1
    · exact classes_near v L c _ _ _ (e1.trans a1) a1 (e2.trans a2) a2 (e3.trans a3) a3 (by omega) (by omega) (by omega) (by omega) h w hT
    · exact classes_near_quick v L c _ _ _ (e1.trans a1) a1 (e2.trans a2) a2 (e3.trans a3) a3 (by omega) (by omega) (by omega) (by omega) (by omega) w hT

end Go.Proofs.YtdjefedlnhfpbaaDoor
