/-
  The walk of the statement ClockPlays: it returns true.
-/
import Derived.Test.YtgajikepicfhoaaClkLawsA
import Derived.Test.YtgajikepicfhoaaInts
namespace Go.Proofs.Ytgajikepicfhoaa
open Go Go.RowKit

/-- What the loop of ClockPlays keeps. -/
def PlaysC (W : World) (p L : Nat) (now dr i : Value) (wr : World) : Prop :=
  ∃ (k t : Nat) (d : Int), k ≤ L ∧ k ≤ 100 ∧ t ≤ k ∧ i = .int .i64 k ∧ now = .int .i64 t ∧ dr = .int .i64 d ∧ Clk wr p t d ∧ Below W.heap.size W wr

theorem drw_zero (n : Int) : drw 0 n = 0 := by
  unfold drw
  split
  · rfl
  · rw [Int.zero_tmod]; simp

set_option maxHeartbeats 2000000 in
theorem playsc_law (a : Option Addr) (L cap : Nat) (zs : List Int) (n : Int) (hn : n ≤ 9223372036854775807) (w : World) (h : InInts w a L zs) :
    Calls Try.prog 3 #[.slice a L cap, .int .i64 n] w fun e w' => e = .returned (.bool true) ∧ Below w.heap.size w w' := by
  have hmax := h.2.1
  unfold maxLen at hmax
  have HN := Lib.hid hn
  have H := Lib.hid h
  clear hn h
  go_enter Try.func3, Try.ntmps3
  go_wp2_with fail
  refine (cnew_any w).mono ?_
  rintro e w1 ⟨rfl, c1, hb1⟩
  have b1 := Lib.hid hb1
  clear hb1
  go_wp2_with fail
  refine (cawake_any _).mono ?_
  rintro e w2 ⟨rfl, b2⟩
  have c2 := c1.below b2
  have hb := b1.out.trans (b2.mono b1.out.size)
  have b3 := Lib.hid hb
  clear b1 b2 c1 hb
  go_wp2_with fail
  refine (now_any c2).mono ?_
  rintro e w' ⟨rfl, rfl⟩
  go_wp2_with fail
  refine (cdraw_any c2 n HN.out).mono ?_
  rintro e w' ⟨rfl, rfl⟩
  rw [drw_zero]
  go_wp2_with fail
  go_loopw [6, 7, 8] (fun now dr i wr => PlaysC w w.heap.size L now dr i wr) (fun _ _ i _ => (100 - intOf i).toNat)
  case atStart => exact ⟨0, 0, 0, by omega, by omega, by omega, rfl, rfl, rfl, c2, b3.out⟩
  case round =>
    obtain ⟨k, t, d, hk, hk1, ht, rfl, rfl, rfl, ck, hbk⟩ := hrel
    have bk := Lib.hid hbk
    clear c2 b3 hbk
    by_cases hlt : k < L
    · by_cases hl1 : k < 100
      · obtain ⟨x, rfl, _, hc⟩ := (H.out.below bk.out).2.2 k hlt
        obtain ⟨z, hz0⟩ : ∃ z, zs.getD k 0 = z := ⟨_, rfl⟩
        rw [hz0] at hc
        have HZ := Lib.hid hz0
        clear hz0
        by_cases hz : z.tmod 3 = 0
        · have hz' : (z.tmod 3 == 0) = true := by simpa using hz
          clear hz
          go_wp2_with fail
          refine (tick_any ck).mono ?_
          rintro e w3 ⟨rfl, c3, f3⟩
          rw [show wrap64 ((t : Int) + 1) = ((t + 1 : Nat) : Int) by unfold wrap64; omega] at c3
          have hz := ((Fr.old (S := [w.heap.size]) bk.out).trans f3).below (B := w.heap.size) (Nat.le_refl _) (by simp)
          have b4 := Lib.hid hz
          clear ck f3 bk hz hc hz'
          go_wp2_with fail
          refine (now_any c3).mono ?_
          rintro e w' ⟨rfl, rfl⟩
          go_wp2_with fail
          refine (cdraw_any c3 n HN.out).mono ?_
          rintro e w' ⟨rfl, rfl⟩
          go_wp2_with fail
          refine (rdraw_any d n HN.out _).mono ?_
          rintro e w' ⟨rfl, rfl⟩
          go_wp2_with fail
          refine (cdraw_any c3 _ (by omega)).mono ?_
          rintro e w' ⟨rfl, rfl⟩
          go_wp2_with fail
          refine (rdraw_any d _ (by omega) _).mono ?_
          rintro e w' ⟨rfl, rfl⟩
          go_wp2_with fail
          go_roundw
          case rel => exact ⟨k + 1, t + 1, d, by omega, by omega, by omega, by go_num, by go_num, rfl, c3, b4.out⟩
          case measure => simp [intOf]; omega
        · have hz' : (z.tmod 3 == 0) = false := by simpa using hz
          clear hz
          go_wp2_with fail
          refine (set_any ck _).mono ?_
          rintro e w3 ⟨rfl, c3, f3⟩
          have hz := ((Fr.old (S := [w.heap.size]) bk.out).trans f3).below (B := w.heap.size) (Nat.le_refl _) (by simp)
          have b4 := Lib.hid hz
          obtain ⟨x', e', _, hc'⟩ := (H.out.below hz).2.2 k hlt
          obtain rfl : x = x' := Option.some.inj e'
          rw [HZ.out] at hc'
          clear ck f3 bk hz hc hz' e'
          go_wp2_with fail
          refine (now_any c3).mono ?_
          rintro e w' ⟨rfl, rfl⟩
          go_wp2_with fail
          refine (cdraw_any c3 n HN.out).mono ?_
          rintro e w' ⟨rfl, rfl⟩
          go_wp2_with fail
          refine (rdraw_any z n HN.out _).mono ?_
          rintro e w' ⟨rfl, rfl⟩
          go_wp2_with fail
          refine (cdraw_any c3 _ (by omega)).mono ?_
          rintro e w' ⟨rfl, rfl⟩
          go_wp2_with fail
          refine (rdraw_any z _ (by omega) _).mono ?_
          rintro e w' ⟨rfl, rfl⟩
          go_wp2_with fail
          go_roundw
          case rel => exact ⟨k + 1, t, z, by omega, by omega, by omega, by go_num, rfl, rfl, c3, b4.out⟩
          case measure => simp [intOf]; omega
      · obtain rfl : k = 100 := by omega
        clear ck
        go_wp2
        go_ret
        exact ⟨rfl, bk.out⟩
    · obtain rfl : k = L := by omega
      clear ck
      go_wp2
      go_ret
      exact ⟨rfl, bk.out⟩
end Go.Proofs.Ytgajikepicfhoaa
