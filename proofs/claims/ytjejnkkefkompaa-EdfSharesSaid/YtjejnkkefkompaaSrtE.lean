/-
  slices.Sort at uint64: the patterns broken, the loop.
-/
import Derived.Test.YtjejnkkefkompaaSrtD
import Derived.Sort.LotD3
namespace Go.Proofs.Ytjejnkkefkompaa
open Go Go.RowKit Go.Sort
set_option linter.unusedSimpArgs false
set_option linter.unusedVariables false

theorem permIn_swp {d dk : Array Int} {a b i j : Nat} (h : PermIn a b d dk) (hb : b ≤ d.size) (hi : a ≤ i) (hi2 : i < b) (hj : a ≤ j) (hj2 : j < b) : PermIn a b d (swp dk i j) :=
  permIn_trans d dk _ a b h (swp_permIn dk a b i j hi hi2 hj hj2 (by rw [h.1]; exact hb))
theorem and_mask (y M : Nat) (hy : y < 18446744073709551616) (h0 : 0 < M) (hM : M ≤ 200000) : ∃ o : Nat, o < M ∧ bits .and .u64 (y : Int) ((M : Int) - 1) = (o : Int) := by
  have e : (M : Int) - 1 = ((M - 1 : Nat) : Int) := by omega
  rw [e, u64_and_nat _ _ hy (by omega)]
  exact ⟨_, Nat.lt_of_le_of_lt Nat.and_le_right (by omega), rfl⟩
set_option maxRecDepth 100000 in
set_option maxHeartbeats 4000000 in
theorem break_any {w : World} {g n c a b : Nat} {d : Array Int} (h : RowA w g n c d) (hab : a + 8 ≤ b) (hb : b ≤ n) (hn : n ≤ 100000) :
    Calls Try.prog 30 #[.slice (some ⟨g, 0, none⟩) n c, .int .i64 a, .int .i64 b] w fun e w' => ∃ d' : Array Int, e = .returned (.tuple #[]) ∧ PermIn a b d d' ∧ RowA w' g n c d' ∧ Fr [g] w w' := by
  have H := Lib.hid h
  have hnI : (n : Int) ≤ 100000 := by omega
  have hds := h.size
  have hgw := h.lt
  clear h
  obtain ⟨m, hm⟩ : ∃ m, b - a = m := ⟨_, rfl⟩
  have hbI : (b : Int) - (a : Int) = (m : Int) := by omega
  have hmb : a + m = b := by omega
  have hm8 : 8 ≤ m := by omega
  have hmn : m ≤ n := by omega
  obtain ⟨i0, hi0⟩ : ∃ i0, a + m / 4 * 2 - 1 = i0 := ⟨_, rfl⟩
  have hi0I : (a : Int) + ((m / 4 * 2 : Nat) : Int) - 1 = (i0 : Int) := by omega
  have hi0J : (a : Int) + (m : Int) / 4 * 2 - 1 = (i0 : Int) := by omega
  have hi0K : (a : Int) + (m : Int) / 4 * 2 + 1 = (i0 : Int) + 2 := by omega
  have hi1 : a ≤ i0 := by omega
  have hi2 : i0 + 2 < b := by omega
  have d8 : decide (8 ≤ (m : Int)) = true := decide_eq_true (by omega)
  have d8' : decide ((m : Int) ≥ 8) = true := decide_eq_true (by omega)
  clear hm hi0
  go_enter Try.func30, Try.ntmps30
  go_wp2_with fail
  have hRa := Lib.hid (Row.of_same (w' := w.alloc (.cells #[.int .u64 (m : Int)] 53)) H.out (by
    show (w.heap.push _)[g]? = _
    rw [Array.getElem?_push, if_neg (by omega)]))
  have hFa := Lib.hid ((Fr.refl [g] w).alloc (.cells #[.int .u64 (m : Int)] 53))
  have hca : (w.alloc (.cells #[.int .u64 (m : Int)] 53)).cell? ⟨w.heap.size, 0, none⟩ = some (.int .u64 (m : Int)) := by go_simp
  have hfa : (w.alloc (.cells #[.int .u64 (m : Int)] 53)).frozen? ⟨w.heap.size, 0, none⟩ = false := by go_simp
  generalize w.alloc (.cells #[.int .u64 (m : Int)] 53) = Wa at *
  obtain ⟨q, hq⟩ : ∃ q, w.heap.size = q := ⟨_, rfl⟩
  have HQ := Lib.hid hq
  have hgq : g ≠ q := by omega
  rw [hq] at hca hfa
  have HCA := Lib.hid hca
  have HFA := Lib.hid hfa
  clear hca hfa
  (with_reducible refine (pow_any m (by omega) (by omega) _).mono ?_)
  rintro e w1 ⟨M, rfl, hM0, hM1, rfl⟩
  rw [hq]
  clear hq H
  have hMI : (M : Int) ≤ 200000 := by omega
  have hMJ : 0 < (M : Int) := by omega
  go_wp2_with fail
  go_loopw [9] (fun v wr => ∃ (i y : Nat) (dk : Array Int), v = .int .i64 i ∧ i0 ≤ i ∧ i ≤ i0 + 3 ∧ y < 18446744073709551616 ∧ PermIn a b d dk ∧ RowA wr g n c dk ∧ Fr [g] w wr ∧ wr.cell? ⟨q, 0, none⟩ = some (.int .u64 (y : Int)) ∧ wr.frozen? ⟨q, 0, none⟩ = false) (fun v _ => 1000000 - (intOf v).toNat)
  case atStart => exact ⟨i0, m, d, by go_num, by omega, by omega, by omega, permIn_refl d a b, hRa.out, hFa.out, HCA.out, HFA.out⟩
  case round =>
    obtain ⟨i, y, dk, rfl, hi3, hi4, hy, hp, hr, hf, hyc, hyf⟩ := hrel
    have HP := Lib.hid hp
    have HR := Lib.hid hr
    have HF := Lib.hid hf
    have HYC := Lib.hid hyc
    have HYF := Lib.hid hyf
    clear hp hr hf hRa hFa HCA HFA hyc hyf
    by_cases hlt : i ≤ i0 + 2
    · have dl : decide ((i : Int) ≤ (i0 : Int) + 2) = true := decide_eq_true (by omega)
      go_wp2_with fail
      (with_reducible refine (next_any HYC.out HYF.out hy).mono ?_)
      rintro e w1 ⟨y1, rfl, hy1, hyc1, hyf1, hn1⟩
      have HYC1 := Lib.hid hyc1
      have HYF1 := Lib.hid hyf1
      have HR1 := Lib.hid (Row.of_same (w' := w1) HR.out (hn1.block g HR.out.lt (by simp only [List.mem_singleton]; exact hgq)))
      have HF1 := Lib.hid (HF.out.drop hn1 (fun x hx => .inr (by rw [List.mem_singleton.1 hx, HQ.out]; exact Nat.le_refl _)))
      clear hyc1 hyf1 hn1 HR HF HYC HYF
      obtain ⟨o, ho, eo⟩ := and_mask y1 M hy1 hM0 (by omega)
      have hoI : (o : Int) < (M : Int) := by omega
      by_cases hom : m ≤ o
      · have dm : decide ((m : Int) ≤ (o : Int)) = true := decide_eq_true (by omega)
        obtain ⟨o2, ho2⟩ : ∃ o2, o - m = o2 := ⟨_, rfl⟩
        have hoJ : (o : Int) - (m : Int) = (o2 : Int) := by omega
        obtain ⟨p, hp⟩ : ∃ p, a + o2 = p := ⟨_, rfl⟩
        have hpI : (a : Int) + (o2 : Int) = (p : Int) := by omega
        clear hp ho2
        have ho2m : (o2 : Int) < (m : Int) := by omega
        go_wp2_with fail
        have c1 := RowA.cell (d := dk) HR1.out (i := i) (by omega)
        have c2 := RowA.cell (d := dk) HR1.out (i := p) (by omega)
        obtain ⟨vi, hvi⟩ : ∃ v, dk[i]! = v := ⟨_, rfl⟩
        obtain ⟨vp, hvp⟩ : ∃ v, dk[p]! = v := ⟨_, rfl⟩
        have hsw := (RowA.swp (d := dk) HR1.out i p).drew
        rw [hvi] at c1
        rw [hvp] at c2
        rw [hvi, hvp] at hsw
        have HSW := Lib.hid hsw
        clear hvi hvp hsw
        have f1 := HR1.out.free i
        have f2 := HR1.out.free p
        have b1 : i < n := by omega
        have b2 : p < n := by omega
        have ap : a ≤ p := by omega
        have pb : p < b := by omega
        have c3 := (Row.put HR1.out (i := i) vp).cell b2
        have c4 : (w1.setCell ⟨g, i, none⟩ (.int .u64 vp)).drew.cell? ⟨g, p, none⟩ = _ := c3
        go_upto_region 10 with fail
        go_region
        have HS := HSW
        have HFS := Lib.hid (fr_two HF1.out (List.mem_singleton.2 rfl) i p (.int .u64 vp) (.int .u64 vi)).drew
        have hyc2 : ((w1.setCell ⟨g, i, none⟩ (.int .u64 vp)).setCell ⟨g, p, none⟩ (.int .u64 vi)).drew.cell? ⟨q, 0, none⟩ = some (.int .u64 (y1 : Int)) := by
          have := HYC1.out
          have hqg : q ≠ g := fun e => hgq e.symm
          go_simp
        have hyf2 : ((w1.setCell ⟨g, i, none⟩ (.int .u64 vp)).setCell ⟨g, p, none⟩ (.int .u64 vi)).drew.frozen? ⟨q, 0, none⟩ = false := by
          have := HYF1.out
          have hqg : q ≠ g := fun e => hgq e.symm
          go_simp
        have HYC2 := Lib.hid hyc2
        have HYF2 := Lib.hid hyf2
        clear c1 c2 c3 c4 f1 f2 HSW HR1 HF1 hyc2 hyf2
        generalize ((w1.setCell ⟨g, i, none⟩ (.int .u64 vp)).setCell ⟨g, p, none⟩ (.int .u64 vi)).drew = W3 at *
        go_wp2_with fail
        go_roundw
        case rel => exact ⟨i + 1, y1, _, by go_num, by omega, by omega, hy1, permIn_swp HP.out (by omega) (by omega) (by omega) ap pb, HS.out, HFS.out, HYC2.out, HYF2.out⟩
        case measure => simp [intOf] <;> omega
      · have dm : decide ((m : Int) ≤ (o : Int)) = false := decide_eq_false (by omega)
        obtain ⟨p, hp⟩ : ∃ p, a + o = p := ⟨_, rfl⟩
        have hpI : (a : Int) + (o : Int) = (p : Int) := by omega
        clear hp
        have ho2m : (o : Int) < (m : Int) := by omega
        go_wp2_with fail
        have c1 := RowA.cell (d := dk) HR1.out (i := i) (by omega)
        have c2 := RowA.cell (d := dk) HR1.out (i := p) (by omega)
        obtain ⟨vi, hvi⟩ : ∃ v, dk[i]! = v := ⟨_, rfl⟩
        obtain ⟨vp, hvp⟩ : ∃ v, dk[p]! = v := ⟨_, rfl⟩
        have hsw := (RowA.swp (d := dk) HR1.out i p).drew
        rw [hvi] at c1
        rw [hvp] at c2
        rw [hvi, hvp] at hsw
        have HSW := Lib.hid hsw
        clear hvi hvp hsw
        have f1 := HR1.out.free i
        have f2 := HR1.out.free p
        have b1 : i < n := by omega
        have b2 : p < n := by omega
        have ap : a ≤ p := by omega
        have pb : p < b := by omega
        have c3 := (Row.put HR1.out (i := i) vp).cell b2
        have c4 : (w1.setCell ⟨g, i, none⟩ (.int .u64 vp)).drew.cell? ⟨g, p, none⟩ = _ := c3
        go_upto_region 10 with fail
        go_region
        have HS := HSW
        have HFS := Lib.hid (fr_two HF1.out (List.mem_singleton.2 rfl) i p (.int .u64 vp) (.int .u64 vi)).drew
        have hyc2 : ((w1.setCell ⟨g, i, none⟩ (.int .u64 vp)).setCell ⟨g, p, none⟩ (.int .u64 vi)).drew.cell? ⟨q, 0, none⟩ = some (.int .u64 (y1 : Int)) := by
          have := HYC1.out
          have hqg : q ≠ g := fun e => hgq e.symm
          go_simp
        have hyf2 : ((w1.setCell ⟨g, i, none⟩ (.int .u64 vp)).setCell ⟨g, p, none⟩ (.int .u64 vi)).drew.frozen? ⟨q, 0, none⟩ = false := by
          have := HYF1.out
          have hqg : q ≠ g := fun e => hgq e.symm
          go_simp
        have HYC2 := Lib.hid hyc2
        have HYF2 := Lib.hid hyf2
        clear c1 c2 c3 c4 f1 f2 HSW HR1 HF1 hyc2 hyf2
        generalize ((w1.setCell ⟨g, i, none⟩ (.int .u64 vp)).setCell ⟨g, p, none⟩ (.int .u64 vi)).drew = W3 at *
        go_wp2_with fail
        go_roundw
        case rel => exact ⟨i + 1, y1, _, by go_num, by omega, by omega, hy1, permIn_swp HP.out (by omega) (by omega) (by omega) ap pb, HS.out, HFS.out, HYC2.out, HYF2.out⟩
        case measure => simp [intOf] <;> omega
    · have dl : decide ((i : Int) ≤ (i0 : Int) + 2) = false := decide_eq_false (by omega)
      go_wp2
      go_end0
      exact ⟨dk, rfl, HP.out, HR.out, HF.out⟩
end Go.Proofs.Ytjejnkkefkompaa
