/-
  slices.Sort at uint64: the pivot is chosen, the whole.
-/
import Derived.Test.YtjejnkkefkompaaSrtF
namespace Go.Proofs.Ytjejnkkefkompaa
open Go Go.RowKit Go.Sort
set_option linter.unusedSimpArgs false
set_option linter.unusedVariables false

set_option maxRecDepth 100000 in
set_option maxHeartbeats 4000000 in
theorem choose_any {w : World} {g n c a b : Nat} {d : Array Int} (h : RowA w g n c d) (hab : a + 13 ≤ b) (hb : b ≤ n) (hn : n ≤ 100000) :
    Calls Try.prog 31 #[.slice (some ⟨g, 0, none⟩) n c, .int .i64 a, .int .i64 b] w fun r w' => ∃ p x : Nat, r = .returned (.tuple #[.int .i64 p, .int .i64 x]) ∧ a ≤ p ∧ p < b ∧ x ≤ 2 ∧ RowA w' g n c d ∧ Fr [g] w w' := by
  have H := Lib.hid h
  have hnI : (n : Int) ≤ 100000 := by omega
  have hgw := h.lt
  clear h
  obtain ⟨m, hm⟩ : ∃ m, b - a = m := ⟨_, rfl⟩
  have hbI : (b : Int) - (a : Int) = (m : Int) := by omega
  obtain ⟨t, ht⟩ : ∃ t, m / 4 = t := ⟨_, rfl⟩
  have htI : (m : Int) / 4 = (t : Int) := by omega
  obtain ⟨i1, h1⟩ : ∃ i, a + t = i := ⟨_, rfl⟩
  obtain ⟨i2, h2⟩ : ∃ i, a + t * 2 = i := ⟨_, rfl⟩
  obtain ⟨i3, h3⟩ : ∃ i, a + t * 3 = i := ⟨_, rfl⟩
  have e1 : (a : Int) + (t : Int) = (i1 : Int) := by omega
  have e2 : (a : Int) + (t : Int) * 2 = (i2 : Int) := by omega
  have e3 : (a : Int) + (t : Int) * 3 = (i3 : Int) := by omega
  have hm8 : decide (8 ≤ (m : Int)) = true := decide_eq_true (by omega)
  have tI : (t : Int) ≤ 100000 := by omega
  have mI : (m : Int) ≤ 100000 := by omega
  have r1 : a + 3 ≤ i1 ∧ i1 + 3 < b := by omega
  have r2 : a + 3 ≤ i2 ∧ i2 + 3 < b := by omega
  have r3 : a + 3 ≤ i3 ∧ i3 < b := by omega
  have r4 : 50 ≤ m → i3 + 3 < b := by omega
  clear hm ht h1 h2 h3
  go_enter Try.func31, Try.ntmps31
  by_cases hm5 : 50 ≤ m
  · have r5 := r4 hm5
    have d5 : decide (50 ≤ (m : Int)) = true := decide_eq_true (by omega)
    clear r4
    go_wp2_with fail
    have hRa : Hid (RowA (w.alloc (.cells #[.int .i64 0] 3)) g n c d) := Lib.hid (Row.of_same H.out (by
      show (w.heap.push _)[g]? = _
      rw [Array.getElem?_push, if_neg (by omega)]))
    have hFa := Lib.hid ((Fr.refl [g] w).alloc (.cells #[.int .i64 0] 3))
    have hBa : Box (w.alloc (.cells #[.int .i64 0] 3)) w.heap.size 0 := ⟨by go_simp, by go_simp⟩
    generalize w.alloc (.cells #[.int .i64 0] 3) = Wa at *
    obtain ⟨q, hq⟩ : ∃ q, w.heap.size = q := ⟨_, rfl⟩
    have HQ := Lib.hid hq
    have hgq : g ≠ q := by omega
    rw [hq] at hBa
    rw [hq]
    have HB0 := Lib.hid hBa
    clear hBa hq H
    (with_reducible refine (adjacent_any (lo := a) (hb := b) hRa.out hgq HB0.out (by omega) (by omega) (by omega) hb hn).mono ?_)
    rintro r w1 ⟨x1, s1, rfl, hx1, hs1, hB1, hF1⟩
    have HR1 := Lib.hid (RowA.fr (d := d) hRa.out hF1 hgq)
    have HB1 := Lib.hid hB1
    have HF1 := Lib.hid (hFa.out.drop hF1 (fun x hx => .inr (by rw [List.mem_singleton.1 hx, HQ.out]; exact Nat.le_refl _)))
    clear hB1 hF1 HB0 hRa hFa
    go_wp2_with fail
    (with_reducible refine (adjacent_any (lo := a) (hb := b) HR1.out hgq HB1.out (by omega) (by omega) (by omega) hb hn).mono ?_)
    rintro r w2 ⟨x2, s2, rfl, hx2, hs2, hB2, hF2⟩
    have HR2 := Lib.hid (RowA.fr (d := d) HR1.out hF2 hgq)
    have HB2 := Lib.hid hB2
    have HF2 := Lib.hid (HF1.out.drop hF2 (fun x hx => .inr (by rw [List.mem_singleton.1 hx, HQ.out]; exact Nat.le_refl _)))
    clear hB2 hF2 HB1 HR1 HF1
    go_wp2_with fail
    (with_reducible refine (adjacent_any (lo := a) (hb := b) HR2.out hgq HB2.out (by omega) (by omega) (by omega) hb hn).mono ?_)
    rintro r w3 ⟨x3, s3, rfl, hx3, hs3, hB3, hF3⟩
    have HR3 := Lib.hid (RowA.fr (d := d) HR2.out hF3 hgq)
    have HB3 := Lib.hid hB3
    have HF3 := Lib.hid (HF2.out.drop hF3 (fun x hx => .inr (by rw [List.mem_singleton.1 hx, HQ.out]; exact Nat.le_refl _)))
    clear hB3 hF3 HB2 HR2 HF2
    go_wp2_with fail
    (with_reducible refine (median_any (lo := a) (hb := b) HR3.out hgq HB3.out (by omega) hx1.1 hx1.2 hx2.1 hx2.2 hx3.1 hx3.2 hb hn).mono ?_)
    rintro r w4 ⟨p, s, rfl, hp, hs4, hB4, hF4⟩
    have HR4 := Lib.hid (RowA.fr (d := d) HR3.out hF4 hgq)
    have HF4 := Lib.hid (HF3.out.drop hF4 (fun x hx => .inr (by rw [List.mem_singleton.1 hx, HQ.out]; exact Nat.le_refl _)))
    clear HR3 HF3 HB3
    have hsI : (s : Int) ≤ 12 := by omega
    have k1 := hB4.1
    clear hB4 hF4
    have hp1 := hp.1
    have hp2 := hp.2
    by_cases s0 : s = 0
    · have q0 : ((s : Int) == 0) = true := by simp; omega
      go_wp2_with fail
      go_ret2
      exact ⟨p, 1, rfl, hp1, hp2, by omega, HR4.out, HF4.out⟩
    · have q0 : ((s : Int) == 0) = false := by simp; omega
      by_cases s12 : s = 12
      · have q1 : ((s : Int) == 12) = true := by simp; omega
        go_wp2_with fail
        go_ret2
        exact ⟨p, 2, rfl, hp1, hp2, by omega, HR4.out, HF4.out⟩
      · have q1 : ((s : Int) == 12) = false := by simp; omega
        go_wp2_with fail
        go_ret2
        exact ⟨p, 0, rfl, hp1, hp2, by omega, HR4.out, HF4.out⟩
  · have d5 : decide (50 ≤ (m : Int)) = false := decide_eq_false (by omega)
    clear r4
    go_wp2_with fail
    have hRa : Hid (RowA (w.alloc (.cells #[.int .i64 0] 3)) g n c d) := Lib.hid (Row.of_same H.out (by
      show (w.heap.push _)[g]? = _
      rw [Array.getElem?_push, if_neg (by omega)]))
    have hFa := Lib.hid ((Fr.refl [g] w).alloc (.cells #[.int .i64 0] 3))
    have hBa : Box (w.alloc (.cells #[.int .i64 0] 3)) w.heap.size 0 := ⟨by go_simp, by go_simp⟩
    generalize w.alloc (.cells #[.int .i64 0] 3) = Wa at *
    obtain ⟨q, hq⟩ : ∃ q, w.heap.size = q := ⟨_, rfl⟩
    have HQ := Lib.hid hq
    have hgq : g ≠ q := by omega
    rw [hq] at hBa
    rw [hq]
    have HB0 := Lib.hid hBa
    clear hBa hq H
    (with_reducible refine (median_any (lo := a) (hb := b) hRa.out hgq HB0.out (by omega) (by omega) (by omega) (by omega) (by omega) (by omega) (by omega) hb hn).mono ?_)
    rintro r w4 ⟨p, s, rfl, hp, hs4, hB4, hF4⟩
    have HR4 := Lib.hid (RowA.fr (d := d) hRa.out hF4 hgq)
    have HF4 := Lib.hid (hFa.out.drop hF4 (fun x hx => .inr (by rw [List.mem_singleton.1 hx, HQ.out]; exact Nat.le_refl _)))
    clear hRa hFa HB0
    have hsI : (s : Int) ≤ 12 := by omega
    have k1 := hB4.1
    clear hB4 hF4
    have hp1 := hp.1
    have hp2 := hp.2
    by_cases s0 : s = 0
    · have q0 : ((s : Int) == 0) = true := by simp; omega
      go_wp2_with fail
      go_ret2
      exact ⟨p, 1, rfl, hp1, hp2, by omega, HR4.out, HF4.out⟩
    · have q0 : ((s : Int) == 0) = false := by simp; omega
      by_cases s12 : s = 12
      · have q1 : ((s : Int) == 12) = true := by simp; omega
        go_wp2_with fail
        go_ret2
        exact ⟨p, 2, rfl, hp1, hp2, by omega, HR4.out, HF4.out⟩
      · have q1 : ((s : Int) == 12) = false := by simp; omega
        go_wp2_with fail
        go_ret2
        exact ⟨p, 0, rfl, hp1, hp2, by omega, HR4.out, HF4.out⟩
end Go.Proofs.Ytjejnkkefkompaa
