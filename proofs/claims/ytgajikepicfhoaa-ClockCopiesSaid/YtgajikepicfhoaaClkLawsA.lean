/-
  awake, and the walks of the statements ClockDraws and ClockCopies.
-/
import Derived.Test.YtgajikepicfhoaaClkCalls
namespace Go.Proofs.Ytgajikepicfhoaa
open Go Go.RowKit

theorem cawake_any (w : World) : Calls Try.prog 7 #[] w fun e w' => e = .returned (.bool true) ∧ Below w.heap.size w w' := by
  go_enter Try.func7, Try.ntmps7
  go_wp2_with fail
  refine (cnew_any w).mono ?_
  rintro e w1 ⟨rfl, c1, hb1⟩
  have b1 := Lib.hid hb1
  clear hb1
  go_wp2_with fail
  refine (set_any c1 7).mono ?_
  rintro e w2 ⟨rfl, c2, f2⟩
  clear c1
  go_wp2_with fail
  refine (cdraw_any c2 4 (by omega)).mono ?_
  rintro e w' ⟨rfl, rfl⟩
  rw [show drw 7 4 = 3 by decide]
  go_wp2_with fail
  refine (cdraw_any c2 4 (by omega)).mono ?_
  rintro e w' ⟨rfl, rfl⟩
  rw [show drw 7 4 = 3 by decide]
  go_wp2_with fail
  refine (set_any c2 _).mono ?_
  rintro e w3 ⟨rfl, c3, f3⟩
  clear c2
  go_wp2_with fail
  refine (tick_any c3).mono ?_
  rintro e w4 ⟨rfl, c4, f4⟩
  clear c3
  rw [show wrap64 (0 + 1) = 1 by unfold wrap64; omega] at c4
  go_wp2_with fail
  refine (cdraw_any c4 4 (by omega)).mono ?_
  rintro e w' ⟨rfl, rfl⟩
  rw [show drw (-1) 4 = 3 by decide]
  go_wp2_with fail
  refine (now_any c4).mono ?_
  rintro e w' ⟨rfl, rfl⟩
  have hz := (((Fr.old (S := [w.heap.size]) b1.out).trans f2).trans f3).trans f4
  clear c4 f2 f3 f4
  go_wp2
  go_ret
  exact ⟨rfl, hz.below (Nat.le_refl _) (by simp)⟩

/-- What ClockDraws asks of a drawn number. -/
theorem drw_multiple (d n : Int) (h : ¬ n < 1) (hn : n ≤ 9223372036854775807) : 0 ≤ drw d n ∧ drw d n < n ∧ IntKind.i64.wrap (d.tmod n - drw d n) = d.tmod n - drw d n ∧ (d.tmod n - drw d n).tmod n = 0 := by
  have hr := tmod_in d n h
  by_cases h' : d.tmod n < 0
  · rw [drw_neg d n h h']
    generalize d.tmod n = r at *
    refine ⟨by omega, by omega, IntWalk.i64_in _ (by omega), ?_⟩
    rw [show r - (r + n) = -n by omega, Int.neg_tmod, Int.tmod_self]
    rfl
  · rw [drw_pos d n h h']
    generalize d.tmod n = r at *
    refine ⟨by omega, by omega, IntWalk.i64_in _ (by omega), ?_⟩
    rw [show r - r = 0 by omega, Int.zero_tmod]

set_option maxHeartbeats 1000000 in
theorem draws_law (d n m : Int) (hn : n ≤ 9223372036854775807) (hm : m ≤ 9223372036854775807) (w : World) :
    Calls Try.prog 4 #[.int .i64 d, .int .i64 n, .int .i64 m] w fun e w' => e = .returned (.bool true) ∧ Below w.heap.size w w' := by
  have HN := Lib.hid hn
  have HM := Lib.hid hm
  clear hn hm
  by_cases h : n < 1
  all_goals
    go_enter Try.func4, Try.ntmps4
    go_wp2_with fail
    refine (cnew_any w).mono ?_
    rintro e w1 ⟨rfl, c1, hb1⟩
    have b1 := Lib.hid hb1
    clear hb1
    go_wp2_with fail
    refine (cawake_any _).mono ?_
    rintro e w2 ⟨rfl, b2⟩
    have c2 := c1.below b2
    have hb := b1.out.trans (b2.mono b1.out.size)
    have b3 := Lib.hid hb
    clear b1 b2 c1 hb
    go_wp2_with fail
    refine (set_any c2 d).mono ?_
    rintro e w3 ⟨rfl, c3, f3⟩
    have hz := ((Fr.old (S := [w.heap.size]) b3.out).trans f3).below (B := w.heap.size) (Nat.le_refl _) (by simp)
    have b4 := Lib.hid hz
    clear c2 f3 b3 hz
    go_wp2_with fail
    refine (cdraw_any c3 n HN.out).mono ?_
    rintro e w' ⟨rfl, rfl⟩
    go_wp2_with fail
    refine (cdraw_any c3 m HM.out).mono ?_
    rintro e w' ⟨rfl, rfl⟩
    go_wp2_with fail
    refine (cdraw_any c3 n HN.out).mono ?_
    rintro e w' ⟨rfl, rfl⟩
    clear c3
  · rw [drw_low d n h]
    go_wp2_with fail
    refine (rdraw_any d m HM.out _).mono ?_
    rintro e w' ⟨rfl, rfl⟩
    go_wp2
    go_ret
    exact ⟨rfl, b4.out⟩
  · obtain ⟨p1, p2, p3, p4⟩ := drw_multiple d n (by omega) HN.out
    generalize drw d n = y at *
    go_wp2_with fail
    refine (rdraw_any d m HM.out _).mono ?_
    rintro e w' ⟨rfl, rfl⟩
    go_wp2
    go_ret
    exact ⟨rfl, b4.out⟩

/-- What the loop of ClockCopies keeps. -/
def TicksR (W : World) (p n : Nat) (i : Value) (wr : World) : Prop := ∃ k : Nat, k ≤ n ∧ i = .int .i64 k ∧ Clk wr p k 0 ∧ Below W.heap.size W wr

theorem drw_some (d n : Int) (h : 1 ≤ n) : ∃ y : Nat, drw d n = y ∧ (y : Int) < n := by
  have hr := tmod_in d n (by omega)
  by_cases h' : d.tmod n < 0
  · rw [drw_neg d n (by omega) h']
    exact ⟨(d.tmod n + n).toNat, by omega, by omega⟩
  · rw [drw_pos d n (by omega) h']
    exact ⟨(d.tmod n).toNat, by omega, by omega⟩

set_option maxHeartbeats 2000000 in
theorem copies_law (t d o : Int) (w : World) :
    Calls Try.prog 5 #[.int .i64 t, .int .i64 d, .int .i64 o] w fun e w' => e = .returned (.bool true) ∧ Below w.heap.size w w' := by
  obtain ⟨n, hy, hn⟩ := drw_some t 50 (by omega)
  have HY := Lib.hid hy
  clear hy
  go_enter Try.func5, Try.ntmps5
  go_wp2_with fail
  refine (cnew_any w).mono ?_
  rintro e w1 ⟨rfl, c1, hb1⟩
  have b1 := Lib.hid hb1
  clear hb1
  go_wp2_with fail
  refine (cawake_any _).mono ?_
  rintro e w2 ⟨rfl, b2⟩
  have c2 := c1.below b2
  have hb := b1.out.trans (b2.mono b1.out.size)
  have b3 := Lib.hid hb
  clear b1 b2 c1 hb
  go_wp2_with fail
  refine (rdraw_any t 50 (by omega) _).mono ?_
  rintro e w' ⟨rfl, rfl⟩
  rw [HY.out]
  go_wp2_with fail
  go_loopw [8] (fun i wr => TicksR w w.heap.size n i wr) (fun i _ => n - (intOf i).toNat)
  case atStart => exact ⟨0, by omega, rfl, c2, b3.out⟩
  case round =>
    obtain ⟨k, hk, rfl, ck, hbk⟩ := hrel
    have bk := Lib.hid hbk
    clear c2 b3 hbk
    by_cases hlt : k < n
    · go_wp2_with fail
      refine (tick_any ck).mono ?_
      rintro e w3 ⟨rfl, c3, f3⟩
      rw [show wrap64 ((k : Int) + 1) = ((k + 1 : Nat) : Int) by unfold wrap64; omega] at c3
      have hz := ((Fr.old (S := [w.heap.size]) bk.out).trans f3).below (B := w.heap.size) (Nat.le_refl _) (by simp)
      have b4 := Lib.hid hz
      clear ck f3 bk hz
      go_wp2_with fail
      go_roundw
      case rel => exact ⟨k + 1, by omega, by go_num, c3, b4.out⟩
      case measure => simp [intOf]; omega
    · obtain rfl : k = n := by omega
      go_wp2_with fail
      refine (set_any ck d).mono ?_
      rintro e w3 ⟨rfl, c3, f3⟩
      have f4 := (Fr.old (S := [w.heap.size]) bk.out).trans f3
      clear ck f3 bk
      go_wp2_with fail
      refine (ccopy_any c3).mono ?_
      rintro e w4 ⟨rfl, c4, b4⟩
      have c4' := c3.below b4
      have f5 := f4.trans (Fr.old (S := [w.heap.size]) b4)
      have hne : w.heap.size < w3.heap.size := Blk.lt c3
      have HNE := Lib.hid hne
      clear c3 f4 b4 hne
      generalize w3.heap.size = q at *
      go_wp2_with fail
      refine (now_any c4).mono ?_
      rintro e w' ⟨rfl, rfl⟩
      go_wp2_with fail
      refine (cdraw_any c4 1000 (by omega)).mono ?_
      rintro e w' ⟨rfl, rfl⟩
      go_wp2_with fail
      refine (cdraw_any c4' 1000 (by omega)).mono ?_
      rintro e w' ⟨rfl, rfl⟩
      go_wp2_with fail
      refine (tick_any c4).mono ?_
      rintro e w5 ⟨rfl, c5, f6⟩
      have c5' := c4'.fr f6 (by have := HNE.out; simp; omega)
      have f7 := (f5.mono (T := [w.heap.size, q]) (by simp)).trans (f6.mono (by simp))
      rw [show wrap64 ((k : Int) + 1) = ((k + 1 : Nat) : Int) by unfold wrap64; omega] at c5
      clear c4 c4' f5 f6
      go_wp2_with fail
      refine (set_any c5 o).mono ?_
      rintro e w6 ⟨rfl, c6, f8⟩
      have c6' := c5'.fr f8 (by have := HNE.out; simp; omega)
      have f9 := f7.trans (f8.mono (by simp))
      clear c5 c5' f7 f8
      go_wp2_with fail
      refine (now_any c6').mono ?_
      rintro e w' ⟨rfl, rfl⟩
      go_wp2_with fail
      refine (cdraw_any c6' 77 (by omega)).mono ?_
      rintro e w' ⟨rfl, rfl⟩
      go_wp2_with fail
      refine (rdraw_any d 77 (by omega) _).mono ?_
      rintro e w' ⟨rfl, rfl⟩
      go_wp2_with fail
      refine (tick_any c6').mono ?_
      rintro e w7 ⟨rfl, c7, f10⟩
      have c7' := c6.fr f10 (by have := HNE.out; simp; omega)
      have f11 := f9.trans (f10.mono (by simp))
      rw [show wrap64 ((k : Int) + 1) = ((k + 1 : Nat) : Int) by unfold wrap64; omega] at c7
      clear c6 c6' f9 f10
      go_wp2_with fail
      refine (tick_any c7).mono ?_
      rintro e w8 ⟨rfl, c8, f12⟩
      have c8' := c7'.fr f12 (by have := HNE.out; simp; omega)
      have f13 := f11.trans (f12.mono (by simp))
      rw [show wrap64 (((k + 1 : Nat) : Int) + 1) = ((k + 2 : Nat) : Int) by unfold wrap64; omega] at c8
      clear c7 c7' f11 f12
      go_wp2_with fail
      refine (now_any c8').mono ?_
      rintro e w' ⟨rfl, rfl⟩
      go_wp2_with fail
      refine (now_any c8).mono ?_
      rintro e w' ⟨rfl, rfl⟩
      go_wp2_with fail
      refine (cdraw_any c8' 77 (by omega)).mono ?_
      rintro e w' ⟨rfl, rfl⟩
      go_wp2_with fail
      refine (rdraw_any o 77 (by omega) _).mono ?_
      rintro e w' ⟨rfl, rfl⟩
      have hz := f13.below (B := w.heap.size) (Nat.le_refl _) (by have := HNE.out; simp; omega)
      have bz := Lib.hid hz
      clear c8 c8' f13 hz
      go_wp2
      go_ret
      exact ⟨rfl, bz.out⟩
end Go.Proofs.Ytgajikepicfhoaa
