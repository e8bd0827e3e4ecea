/-
  The walk of the statement WordsEarlier: it returns true.
-/
import Derived.Test.YtdjefedlnhfpbaaDoorLawsB
import Derived.BigRegion
import Derived.Laws.StructEq
namespace Go.Proofs.YtdjefedlnhfpbaaDoor
open Go Go.RowKit

/-- The two arrays, in new blocks of their own, behind some draws. -/
def two (w : World) (x0 x1 x2 y0 y1 y2 : Int) (n : Nat) : World :=
  ((w.alloc (.cells #[.int .i64 x0, .int .i64 x1, .int .i64 x2] 38)).alloc (.cells #[.int .i64 y0, .int .i64 y1, .int .i64 y2] 38)).drewN n

theorem setCell_drewN (w : World) (n : Nat) (a : Addr) (v : Value) : (w.drewN n).setCell a v = (w.setCell a v).drewN n := by
  simp only [World.setCell, World.drewN]
  try rfl

theorem two_0 (w : World) (x0 x1 x2 y0 y1 y2 u v : Int) (n : Nat) : (((two w x0 x1 x2 y0 y1 y2 n).setCell ⟨w.heap.size, 0, none⟩ (.int .i64 u)).setCell ⟨w.heap.size + 1, 0, none⟩ (.int .i64 v)) = two w u x1 x2 v y1 y2 n := by
  unfold two
  rw [setCell_drewN, setCell_drewN]
  congr 1
  go_simp
theorem two_1 (w : World) (x0 x1 x2 y0 y1 y2 u v : Int) (n : Nat) : (((two w x0 x1 x2 y0 y1 y2 n).setCell ⟨w.heap.size, 1, none⟩ (.int .i64 u)).setCell ⟨w.heap.size + 1, 1, none⟩ (.int .i64 v)) = two w x0 u x2 y0 v y2 n := by
  unfold two
  rw [setCell_drewN, setCell_drewN]
  congr 1
  go_simp
theorem two_2 (w : World) (x0 x1 x2 y0 y1 y2 u v : Int) (n : Nat) : (((two w x0 x1 x2 y0 y1 y2 n).setCell ⟨w.heap.size, 2, none⟩ (.int .i64 u)).setCell ⟨w.heap.size + 1, 2, none⟩ (.int .i64 v)) = two w x0 x1 u y0 y1 v n := by
  unfold two
  rw [setCell_drewN, setCell_drewN]
  congr 1
  go_simp

theorem two_tab {w : World} (h : Tab w) (hz : 0 < w.heap.size) (x0 x1 x2 y0 y1 y2 : Int) (n : Nat) : Tab (two w x0 x1 x2 y0 y1 y2 n) := fun j hj => by
  have := h j hj
  unfold two
  go_simp

theorem eq_arr3 (a0 a1 a2 b0 b1 b2 : Int) (w : World) : (Op.equalIn 10000 38 (.agg #[.int .i64 a0, .int .i64 a1, .int .i64 a2]) (.agg #[.int .i64 b0, .int .i64 b1, .int .i64 b2])).run Tryd.prog w = .ok (a0 == b0 && a1 == b1 && a2 == b2) w := by
  have uInt := Tryd.underlying3
  have sInt := Tryd.isAgg3
  have zInt := Tryd.sizeOf3
  rw [show (10000 : Nat) = 9999 + 1 from rfl, Op.equalIn]
  simp only [Sem.run_bind, run_underlying Tryd.underlying38, Result.andThen_ok]
  simp only [Std.Legacy.Range.forIn_eq_forIn_range', Std.Legacy.Range.size, Nat.sub_zero, Nat.add_sub_cancel, Nat.div_one, List.range'_succ, List.range'_zero, List.forIn_cons, List.forIn_nil]
  go_simp
  by_cases h1 : a0 = b0 <;> by_cases h2 : a1 = b1 <;> by_cases h3 : a2 = b2 <;> simp [h1, h2, h3]

theorem two_grown (w : World) (x0 x1 x2 y0 y1 y2 : Int) (n : Nat) : Grown w (two w x0 x1 x2 y0 y1 y2 n) := by
  have h : Grown w ((w.alloc (.cells #[.int .i64 x0, .int .i64 x1, .int .i64 x2] 38)).alloc (.cells #[.int .i64 y0, .int .i64 y1, .int .i64 y2] 38)) := ((Grown.refl w).alloc _ _).alloc _ _
  unfold two
  induction n with
  | zero => exact h
  | succ n ih => exact ih.drew

set_option maxHeartbeats 4000000 in
theorem earlier_walk (a0 a1 a2 b0 b1 b2 A0 A1 A2 B0 B1 B2 : Int)
    (ea0 : (wrap64 (a0.tmod 16777216 + 16777216)).tmod 16777216 = A0) (ea1 : (wrap64 (a1.tmod 16777216 + 16777216)).tmod 16777216 = A1) (ea2 : (wrap64 (a2.tmod 65536 + 65536)).tmod 65536 = A2)
    (eb0 : (wrap64 (b0.tmod 16777216 + 16777216)).tmod 16777216 = B0) (eb1 : (wrap64 (b1.tmod 16777216 + 16777216)).tmod 16777216 = B1) (eb2 : (wrap64 (b2.tmod 65536 + 65536)).tmod 65536 = B2)
    (hka : Keyed A0 A1 A2) (hkb : Keyed B0 B1 B2) (w : World) (hT : ∀ n, Tab (two w A0 A1 A2 B0 B1 B2 n)) :
    Calls Tryd.prog 9 #[.agg #[.int .i64 a0, .int .i64 a1, .int .i64 a2], .agg #[.int .i64 b0, .int .i64 b1, .int .i64 b2]] w fun e w' => e = .returned (.bool true) ∧ ∃ n, w' = two w A0 A1 A2 B0 B1 B2 n := by
  have HT := Lib.hid hT
  have HKa := Lib.hid hka
  have HKb := Lib.hid hkb
  clear hT
  go_enter Tryd.func9, Tryd.ntmps9
  go_wp2
  go_loopw [5] (fun i wr => ∃ n : Nat, (i = .int .i64 0 ∧ wr = two w a0 a1 a2 b0 b1 b2 n) ∨ (i = .int .i64 1 ∧ wr = two w A0 a1 a2 B0 b1 b2 n) ∨ (i = .int .i64 2 ∧ wr = two w A0 A1 a2 B0 B1 b2 n) ∨ (i = .int .i64 3 ∧ wr = two w A0 A1 A2 B0 B1 B2 n)) (fun i _ => (3 - intOf i).toNat)
  case atStart => exact ⟨0, Or.inl ⟨rfl, rfl⟩⟩
  case round =>
    obtain ⟨n, ⟨rfl, rfl⟩ | ⟨rfl, rfl⟩ | ⟨rfl, rfl⟩ | ⟨rfl, rfl⟩⟩ := hrel
    · unfold two
      go_wp2
      go_region
      go_wp2
      go_roundw
      case rel => exact ⟨n + 1, Or.inr (Or.inl ⟨rfl, two_0 _ _ _ _ _ _ _ _ _ _⟩)⟩
      case measure => simp [intOf]
    · unfold two
      go_wp2
      go_region
      go_wp2
      go_roundw
      case rel => exact ⟨n + 1, Or.inr (Or.inr (Or.inl ⟨rfl, two_1 _ _ _ _ _ _ _ _ _ _⟩))⟩
      case measure => simp [intOf]
    · unfold two
      go_wp2
      go_region
      go_wp2
      go_roundw
      case rel => exact ⟨n + 1, Or.inr (Or.inr (Or.inr ⟨rfl, two_2 _ _ _ _ _ _ _ _ _ _⟩))⟩
      case measure => simp [intOf]
    · have kA : keyS A0 A1 A2 = A0 * 1099511627776 + A1 * 65536 + A2 := rfl
      have kB : keyS B0 B1 B2 = B0 * 1099511627776 + B1 * 65536 + B2 := rfl
      have HP := Lib.hid (fun w => pack_ok A0 A1 A2 HKa.out w)
      have HQ := Lib.hid (fun w => pack_ok B0 B1 B2 HKb.out w)
      have HA := Lib.hid (awake_any _ (HT.out n))
      generalize keyS A0 A1 A2 = K at kA HP
      generalize keyS B0 B1 B2 = L at kB HQ
      obtain ⟨⟨d0, d1⟩, ⟨d2, d3⟩, d4, d5⟩ := hka
      obtain ⟨⟨f0, f1⟩, ⟨f2, f3⟩, f4, f5⟩ := hkb
      unfold two at HA ⊢
      have heq := fun w => eq_arr3 A0 A1 A2 B0 B1 B2 w
      by_cases h0 : A0 < B0
      · have hKL : K < L := by omega
        have hKL' : (K == L) = false := by simp; omega
        have g0 : (A0 == B0) = false := by simp; omega
        simp only [g0, Bool.false_and] at heq
        clear kA kB
        go_wp2_with fail
        refine (HP.out _).mono ?_
        rintro e w' ⟨rfl, rfl⟩
        go_wp2_with fail
        refine (HQ.out _).mono ?_
        rintro e w' ⟨rfl, rfl⟩
        go_wp2_with fail
        refine HA.out.mono ?_
        rintro e w' ⟨rfl, rfl⟩
        go_wp2
        go_ret
        exact ⟨rfl, n, rfl⟩
      by_cases h0' : B0 < A0
      · have hKL : L < K := by omega
        have hKL' : (K == L) = false := by simp; omega
        have g0 : (A0 == B0) = false := by simp; omega
        simp only [g0, Bool.false_and] at heq
        clear kA kB
        go_wp2_with fail
        refine (HP.out _).mono ?_
        rintro e w' ⟨rfl, rfl⟩
        go_wp2_with fail
        refine (HQ.out _).mono ?_
        rintro e w' ⟨rfl, rfl⟩
        go_wp2_with fail
        refine HA.out.mono ?_
        rintro e w' ⟨rfl, rfl⟩
        go_wp2
        go_ret
        exact ⟨rfl, n, rfl⟩
      obtain rfl : A0 = B0 := by omega
      by_cases h1 : A1 < B1
      · have hKL : K < L := by omega
        have hKL' : (K == L) = false := by simp; omega
        have g1 : (A1 == B1) = false := by simp; omega
        simp only [g1, Bool.false_and, Bool.and_false] at heq
        clear kA kB
        go_wp2_with fail
        refine (HP.out _).mono ?_
        rintro e w' ⟨rfl, rfl⟩
        go_wp2_with fail
        refine (HQ.out _).mono ?_
        rintro e w' ⟨rfl, rfl⟩
        go_wp2_with fail
        refine HA.out.mono ?_
        rintro e w' ⟨rfl, rfl⟩
        go_wp2
        go_ret
        exact ⟨rfl, n, rfl⟩
      by_cases h1' : B1 < A1
      · have hKL : L < K := by omega
        have hKL' : (K == L) = false := by simp; omega
        have g1 : (A1 == B1) = false := by simp; omega
        simp only [g1, Bool.false_and, Bool.and_false] at heq
        clear kA kB
        go_wp2_with fail
        refine (HP.out _).mono ?_
        rintro e w' ⟨rfl, rfl⟩
        go_wp2_with fail
        refine (HQ.out _).mono ?_
        rintro e w' ⟨rfl, rfl⟩
        go_wp2_with fail
        refine HA.out.mono ?_
        rintro e w' ⟨rfl, rfl⟩
        go_wp2
        go_ret
        exact ⟨rfl, n, rfl⟩
      obtain rfl : A1 = B1 := by omega
      by_cases h2 : A2 < B2
      · have hKL : K < L := by omega
        have hKL' : (K == L) = false := by simp; omega
        have g2 : (A2 == B2) = false := by simp; omega
        simp only [g2, Bool.and_false] at heq
        clear kA kB
        go_wp2_with fail
        refine (HP.out _).mono ?_
        rintro e w' ⟨rfl, rfl⟩
        go_wp2_with fail
        refine (HQ.out _).mono ?_
        rintro e w' ⟨rfl, rfl⟩
        go_wp2_with fail
        refine HA.out.mono ?_
        rintro e w' ⟨rfl, rfl⟩
        go_wp2
        go_ret
        exact ⟨rfl, n, rfl⟩
      by_cases h2' : B2 < A2
      · have hKL : L < K := by omega
        have hKL' : (K == L) = false := by simp; omega
        have g2 : (A2 == B2) = false := by simp; omega
        simp only [g2, Bool.and_false] at heq
        clear kA kB
        go_wp2_with fail
        refine (HP.out _).mono ?_
        rintro e w' ⟨rfl, rfl⟩
        go_wp2_with fail
        refine (HQ.out _).mono ?_
        rintro e w' ⟨rfl, rfl⟩
        go_wp2_with fail
        refine HA.out.mono ?_
        rintro e w' ⟨rfl, rfl⟩
        go_wp2
        go_ret
        exact ⟨rfl, n, rfl⟩
      obtain rfl : A2 = B2 := by omega
      obtain rfl : K = L := by omega
      simp only [beq_self_eq_true, Bool.and_true] at heq
      clear kA kB
      go_wp2_with fail
      refine (HP.out _).mono ?_
      rintro e w' ⟨rfl, rfl⟩
      go_wp2_with fail
      refine (HQ.out _).mono ?_
      rintro e w' ⟨rfl, rfl⟩
      go_wp2_with fail
      refine HA.out.mono ?_
      rintro e w' ⟨rfl, rfl⟩
      go_wp2
      go_ret
      exact ⟨rfl, n, rfl⟩

theorem nrm_bd (a n : Int) (hn : 0 < n) (hs : n ≤ 16777216) : 0 ≤ (wrap64 (a.tmod n + n)).tmod n ∧ (wrap64 (a.tmod n + n)).tmod n ≤ n - 1 := by
  obtain ⟨h0, h1⟩ := tmod_bd a n hn
  have e : wrap64 (a.tmod n + n) = a.tmod n + n := by unfold wrap64; omega
  rw [e, Int.tmod_eq_emod_of_nonneg (by omega)]
  have h2 := Int.emod_nonneg (a.tmod n + n) (show n ≠ 0 by omega)
  have h3 := Int.emod_lt_of_pos (a.tmod n + n) hn
  omega

theorem earlier_law (a0 a1 a2 b0 b1 b2 : Int) (w : World) (hT : Tab w) :
    Calls Tryd.prog 9 #[.agg #[.int .i64 a0, .int .i64 a1, .int .i64 a2], .agg #[.int .i64 b0, .int .i64 b1, .int .i64 b2]] w fun e w' => e = .returned (.bool true) ∧ Grown w w' := by
  have hz : 0 < w.heap.size := World.block_lt_of_cell? w _ (hT 0 (by decide))
  have h24 : (0 : Int) < 16777216 := by decide
  have h16 : (0 : Int) < 65536 := by decide
  refine (earlier_walk a0 a1 a2 b0 b1 b2 _ _ _ _ _ _ rfl rfl rfl rfl rfl rfl ⟨nrm_bd a0 _ h24 (by decide), nrm_bd a1 _ h24 (by decide), nrm_bd a2 _ h16 (by decide)⟩ ⟨nrm_bd b0 _ h24 (by decide), nrm_bd b1 _ h24 (by decide), nrm_bd b2 _ h16 (by decide)⟩ w (fun n => two_tab hT hz _ _ _ _ _ _ n)).mono ?_
  rintro e w' ⟨rfl, n, rfl⟩
  exact ⟨rfl, two_grown w _ _ _ _ _ _ n⟩
end Go.Proofs.YtdjefedlnhfpbaaDoor
