/-
  Package layout: the contracts of its methods. (Written by wip/gen_lya.py.)
-/
import Derived.Test.YtffcclgcgiilmaaLayC
namespace Go.Proofs.Ytffcclgcgiilmaa
open Go Go.RowKit

/-- The numbers of a layout. -/
abbrev lcells (c : Cfg) : Array Value := #[.int .i64 4, .int .i64 (4 + c.he), .int .i64 (4 + c.he + c.cl), .int .i64 (4 + c.he + c.cl + c.wo), .int .i64 (rDeques c), .int .i64 (rDeques c + rAll c), .int .i64 (rCells c), .int .i64 c.le, .int .i64 c.de]
abbrev lv (c : Cfg) : Value := .agg (lcells c)
abbrev lbox (c : Cfg) : Obj := .cells (lcells c) 30

theorem below_any (i n : Int) (w : World) : Calls Try.prog 48 #[.int .i64 i, .int .i64 n] w fun e w' => e = .returned (.bool (decide (0 ≤ i ∧ i < n))) ∧ w = w' := by
  by_cases h0 : 0 ≤ i
  · by_cases h1 : i < n
    · rw [show decide (0 ≤ i ∧ i < n) = true from decide_eq_true ⟨h0, h1⟩]
      go_enter Try.func48, Try.ntmps48
      go_wp2
      go_ret
      exact ⟨rfl, rfl⟩
    · rw [show decide (0 ≤ i ∧ i < n) = false from decide_eq_false (fun h => h1 h.2)]
      go_enter Try.func48, Try.ntmps48
      go_wp2
      go_ret
      exact ⟨rfl, rfl⟩
  · rw [show decide (0 ≤ i ∧ i < n) = false from decide_eq_false (fun h => h0 h.1)]
    go_enter Try.func48, Try.ntmps48
    go_wp2
    go_ret
    exact ⟨rfl, rfl⟩

theorem single_any (first end_ i : Int) (h0 : 0 ≤ first) (h1 : first ≤ end_) (h2 : end_ ≤ 100000) (w : World) :
    Calls Try.prog 47 #[.int .i64 first, .int .i64 end_, .int .i64 i] w fun e w' => e = .returned (.int .i64 (ixs first i (end_ - first) 1)) ∧ w = w' := by
  unfold ixs
  by_cases hi : 0 ≤ i ∧ i < end_ - first
  · rw [if_neg (by omega), Int.mul_one]
    obtain ⟨i0, i1⟩ := hi
    go_enter Try.func47, Try.ntmps47
    go_wp2_with fail
    (with_reducible refine (below_any _ _ _).mono ?_)
    rintro e w1 ⟨rfl, rfl⟩
    rw [show decide (0 ≤ i ∧ i < end_ - first) = true from decide_eq_true ⟨i0, i1⟩]
    go_wp2
    go_ret
    exact ⟨rfl, rfl⟩
  · rw [if_pos (by omega)]
    have hd : decide (0 ≤ i ∧ i < end_ - first) = false := decide_eq_false hi
    clear hi
    go_enter Try.func47, Try.ntmps47
    go_wp2_with fail
    (with_reducible refine (below_any _ _ _).mono ?_)
    rintro e w1 ⟨rfl, rfl⟩
    rw [hd]
    go_wp2
    go_ret
    exact ⟨rfl, rfl⟩

section
variable {w : World} {c : Cfg}
theorem lnext_any : Calls Try.prog 15 #[lv c] w (GivesI 0 w) := by
  have B1 := Lib.hid (below_one w (lbox c))
  go_enter Try.func15, Try.ntmps15
  go_wp2
  go_ret
  exact ⟨rfl, B1.out⟩
theorem llock_any : Calls Try.prog 16 #[lv c] w (GivesI 1 w) := by
  have B1 := Lib.hid (below_one w (lbox c))
  go_enter Try.func16, Try.ntmps16
  go_wp2
  go_ret
  exact ⟨rfl, B1.out⟩
theorem lsize_any : Calls Try.prog 17 #[lv c] w (GivesI 2 w) := by
  have B1 := Lib.hid (below_one w (lbox c))
  go_enter Try.func17, Try.ntmps17
  go_wp2
  go_ret
  exact ⟨rfl, B1.out⟩
theorem larrival_any : Calls Try.prog 18 #[lv c] w (GivesI 3 w) := by
  have B1 := Lib.hid (below_one w (lbox c))
  go_enter Try.func18, Try.ntmps18
  go_wp2
  go_ret
  exact ⟨rfl, B1.out⟩
theorem lcells_any : Calls Try.prog 13 #[lv c] w (GivesI (rCells c) w) := by
  have B1 := Lib.hid (below_one w (lbox c))
  go_enter Try.func13, Try.ntmps13
  go_wp2
  go_ret
  exact ⟨rfl, B1.out⟩
theorem lqueuecells_any (v0 v1 v2 v3 v4 v5 v6 v7 d : Int) (h : 1 ≤ d ∧ d ≤ 64) : Calls Try.prog 31 #[.agg #[.int .i64 v0, .int .i64 v1, .int .i64 v2, .int .i64 v3, .int .i64 v4, .int .i64 v5, .int .i64 v6, .int .i64 v7, .int .i64 d]] w (GivesI (2 + d) w) := by
  have B1 := Lib.hid (below_one w (.cells #[.int .i64 v0, .int .i64 v1, .int .i64 v2, .int .i64 v3, .int .i64 v4, .int .i64 v5, .int .i64 v6, .int .i64 v7, .int .i64 d] 30))
  go_enter Try.func31, Try.ntmps31
  go_wp2
  go_ret
  exact ⟨rfl, B1.out⟩
theorem lslot_any (h : CfgIn c) (i : Int) : Calls Try.prog 19 #[lv c, .int .i64 i] w (GivesI (rSlot c i) w) := by
  have B1 := Lib.hid (below_one w (lbox c))
  have h1 := h.he
  have h2 := h.cl
  have h3 := h.wo
  have hd : rDeques c = 4 + c.he + c.cl + 2 * c.wo := rfl
  have hn : 4 + c.he - 4 = c.he := by omega
  have HN := Lib.hid hn
  clear hn
  go_enter Try.func19, Try.ntmps19
  go_wp2_with fail
  (with_reducible refine (single_any _ _ _ ?a1 ?a2 ?a3 _).mono ?_)
  case a1 => omega
  case a2 => omega
  case a3 => omega
  rintro e w1 ⟨rfl, rfl⟩
  rw [HN.out]
  clear hd
  go_wp2
  go_ret
  exact ⟨rfl, B1.out⟩
theorem lsleepers_any (h : CfgIn c) (i : Int) : Calls Try.prog 20 #[lv c, .int .i64 i] w (GivesI (rSleepers c i) w) := by
  have B1 := Lib.hid (below_one w (lbox c))
  have h1 := h.he
  have h2 := h.cl
  have h3 := h.wo
  have hd : rDeques c = 4 + c.he + c.cl + 2 * c.wo := rfl
  have hn : 4 + c.he + c.cl - (4 + c.he) = c.cl := by omega
  have HN := Lib.hid hn
  clear hn
  go_enter Try.func20, Try.ntmps20
  go_wp2_with fail
  (with_reducible refine (single_any _ _ _ ?a1 ?a2 ?a3 _).mono ?_)
  case a1 => omega
  case a2 => omega
  case a3 => omega
  rintro e w1 ⟨rfl, rfl⟩
  rw [HN.out]
  clear hd
  go_wp2
  go_ret
  exact ⟨rfl, B1.out⟩
theorem lepoch_any (h : CfgIn c) (i : Int) : Calls Try.prog 21 #[lv c, .int .i64 i] w (GivesI (rEpoch c i) w) := by
  have B1 := Lib.hid (below_one w (lbox c))
  have h1 := h.he
  have h2 := h.cl
  have h3 := h.wo
  have hd : rDeques c = 4 + c.he + c.cl + 2 * c.wo := rfl
  have hn : 4 + c.he + c.cl + c.wo - (4 + c.he + c.cl) = c.wo := by omega
  have HN := Lib.hid hn
  clear hn
  go_enter Try.func21, Try.ntmps21
  go_wp2_with fail
  (with_reducible refine (single_any _ _ _ ?a1 ?a2 ?a3 _).mono ?_)
  case a1 => omega
  case a2 => omega
  case a3 => omega
  rintro e w1 ⟨rfl, rfl⟩
  rw [HN.out]
  clear hd
  go_wp2
  go_ret
  exact ⟨rfl, B1.out⟩
theorem lbitmap_any (h : CfgIn c) (i : Int) : Calls Try.prog 22 #[lv c, .int .i64 i] w (GivesI (rBitmap c i) w) := by
  have B1 := Lib.hid (below_one w (lbox c))
  have h1 := h.he
  have h2 := h.cl
  have h3 := h.wo
  have hd : rDeques c = 4 + c.he + c.cl + 2 * c.wo := rfl
  have hn : 4 + c.he + c.cl + 2 * c.wo - (4 + c.he + c.cl + c.wo) = c.wo := by omega
  have HN := Lib.hid hn
  clear hn
  go_enter Try.func22, Try.ntmps22
  go_wp2_with fail
  (with_reducible refine (single_any _ _ _ ?a1 ?a2 ?a3 _).mono ?_)
  case a1 => omega
  case a2 => omega
  case a3 => omega
  rintro e w1 ⟨rfl, rfl⟩
  rw [HN.out]
  clear hd
  go_wp2
  go_ret
  exact ⟨rfl, B1.out⟩
set_option maxHeartbeats 1000000 in
theorem ltask_any (h : CfgIn c) (t k : Int) (hk : 0 ≤ k ∧ k ≤ 4) : Calls Try.prog 49 #[lv c, .int .i64 t, .int .i64 k] w (GivesI (rTask c t k) w) := by
  have B1 := Lib.hid (below_one w (lbox c))
  have hta := h.ta
  have hd := h.deques
  have ha := h.all
  have hc : rCells c = rDeques c + rAll c + 5 * c.ta := rfl
  have hdv : (5 * c.ta).tdiv 5 = c.ta := by rw [Int.mul_comm, Int.mul_tdiv_cancel _ (by omega)]
  have hr : rTask c t k = if 0 ≤ t ∧ t < c.ta then rDeques c + rAll c + t * 5 + k else -1 := by
    unfold rTask ixs
    by_cases ht : 0 ≤ t ∧ t < c.ta
    · rw [if_neg (show ¬ (t < 0 ∨ c.ta ≤ t) by omega), if_neg (by omega), if_pos ht]
    · rw [if_pos (show t < 0 ∨ c.ta ≤ t by omega), if_pos (by omega), if_neg ht]
  rw [hr]
  clear hr
  obtain ⟨C, hC⟩ : ∃ x, rCells c = x := ⟨_, rfl⟩
  obtain ⟨D, hD⟩ : ∃ x, rDeques c + rAll c = x := ⟨_, rfl⟩
  have hD0 : 0 ≤ D ∧ D ≤ 68000 := by omega
  have hCD : C - D = 5 * c.ta := by omega
  have hCb : 0 ≤ C ∧ C ≤ 70000 := by omega
  have hlb : lbox c = .cells #[.int .i64 4, .int .i64 (4 + c.he), .int .i64 (4 + c.he + c.cl), .int .i64 (4 + c.he + c.cl + c.wo), .int .i64 (rDeques c), .int .i64 D, .int .i64 C, .int .i64 c.le, .int .i64 c.de] 30 := by rw [← hC, ← hD]
  rw [hlb] at B1
  have hlv : lv c = .agg #[.int .i64 4, .int .i64 (4 + c.he), .int .i64 (4 + c.he + c.cl), .int .i64 (4 + c.he + c.cl + c.wo), .int .i64 (rDeques c), .int .i64 D, .int .i64 C, .int .i64 c.le, .int .i64 c.de] := by rw [← hC, ← hD]
  rw [hlv, hD]
  generalize rDeques c = E at *
  clear hC hD hc hlb hlv hd ha
  by_cases ht : 0 ≤ t ∧ t < c.ta
  · rw [if_pos ht]
    have hdt : decide (0 ≤ t ∧ t < c.ta) = true := decide_eq_true ht
    have HT := Lib.hid hdt
    obtain ⟨t0, t1⟩ := ht
    clear hdt
    go_enter Try.func49, Try.ntmps49
    go_wp2_with fail
    (with_reducible refine (below_any _ _ _).mono ?_)
    rintro e w1 ⟨rfl, rfl⟩
    rw [HT.out]
    go_wp2
    go_ret
    exact ⟨rfl, B1.out⟩
  · rw [if_neg ht]
    have hdt : decide (0 ≤ t ∧ t < c.ta) = false := decide_eq_false ht
    have HT := Lib.hid hdt
    clear ht hdt
    go_enter Try.func49, Try.ntmps49
    go_wp2_with fail
    (with_reducible refine (below_any _ _ _).mono ?_)
    rintro e w1 ⟨rfl, rfl⟩
    rw [HT.out]
    go_wp2
    go_ret
    exact ⟨rfl, B1.out⟩
theorem lstate_any (h : CfgIn c) (t : Int) : Calls Try.prog 24 #[lv c, .int .i64 t] w (GivesI (rTask c t 0) w) := by
  have B1 := Lib.hid (below_one w (lbox c))
  go_enter Try.func24, Try.ntmps24
  go_wp2_with fail
  (with_reducible refine (ltask_any h _ _ ?a1).mono ?_)
  case a1 => exact ⟨by decide, by decide⟩
  rintro e w1 ⟨rfl, b1⟩
  have B2 := Lib.hid (B1.out.trans (b1.mono B1.out.size))
  clear b1
  go_wp2
  go_ret
  exact ⟨rfl, B2.out⟩
theorem llevel_any (h : CfgIn c) (t : Int) : Calls Try.prog 25 #[lv c, .int .i64 t] w (GivesI (rTask c t 1) w) := by
  have B1 := Lib.hid (below_one w (lbox c))
  go_enter Try.func25, Try.ntmps25
  go_wp2_with fail
  (with_reducible refine (ltask_any h _ _ ?a1).mono ?_)
  case a1 => exact ⟨by decide, by decide⟩
  rintro e w1 ⟨rfl, b1⟩
  have B2 := Lib.hid (B1.out.trans (b1.mono B1.out.size))
  clear b1
  go_wp2
  go_ret
  exact ⟨rfl, B2.out⟩
theorem ljoin_any (h : CfgIn c) (t : Int) : Calls Try.prog 26 #[lv c, .int .i64 t] w (GivesI (rTask c t 2) w) := by
  have B1 := Lib.hid (below_one w (lbox c))
  go_enter Try.func26, Try.ntmps26
  go_wp2_with fail
  (with_reducible refine (ltask_any h _ _ ?a1).mono ?_)
  case a1 => exact ⟨by decide, by decide⟩
  rintro e w1 ⟨rfl, b1⟩
  have B2 := Lib.hid (B1.out.trans (b1.mono B1.out.size))
  clear b1
  go_wp2
  go_ret
  exact ⟨rfl, B2.out⟩
theorem lwaits_any (h : CfgIn c) (t : Int) : Calls Try.prog 27 #[lv c, .int .i64 t] w (GivesI (rTask c t 3) w) := by
  have B1 := Lib.hid (below_one w (lbox c))
  go_enter Try.func27, Try.ntmps27
  go_wp2_with fail
  (with_reducible refine (ltask_any h _ _ ?a1).mono ?_)
  case a1 => exact ⟨by decide, by decide⟩
  rintro e w1 ⟨rfl, b1⟩
  have B2 := Lib.hid (B1.out.trans (b1.mono B1.out.size))
  clear b1
  go_wp2
  go_ret
  exact ⟨rfl, B2.out⟩
theorem lsince_any (h : CfgIn c) (t : Int) : Calls Try.prog 28 #[lv c, .int .i64 t] w (GivesI (rTask c t 4) w) := by
  have B1 := Lib.hid (below_one w (lbox c))
  go_enter Try.func28, Try.ntmps28
  go_wp2_with fail
  (with_reducible refine (ltask_any h _ _ ?a1).mono ?_)
  case a1 => exact ⟨by decide, by decide⟩
  rintro e w1 ⟨rfl, b1⟩
  have B2 := Lib.hid (B1.out.trans (b1.mono B1.out.size))
  clear b1
  go_wp2
  go_ret
  exact ⟨rfl, B2.out⟩
end
end Go.Proofs.Ytffcclgcgiilmaa
