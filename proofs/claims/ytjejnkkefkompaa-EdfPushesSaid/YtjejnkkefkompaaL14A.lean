/-
  The walk of the statement EdfPushes: it returns true.
-/
import Derived.Test.YtjejnkkefkompaaEdW
namespace Go.Proofs.Ytjejnkkefkompaa
open Go Go.RowKit
set_option linter.unusedSimpArgs false
set_option linter.unusedVariables false

set_option maxRecDepth 100000 in
set_option maxHeartbeats 2000000 in
theorem pushes14_law {W : World} {v : Value} {X : List Int} (k : Nat) (h : WV W v X ∧ ∀ x, x ∈ X → 0 ≤ x) :
    Calls Try.prog 3 #[v, .int .u64 (k : Int)] W fun e W' => e = .returned (.bool true) ∧ Below W.heap.size W W' := by
  obtain ⟨h1, h0⟩ := h
  have HV := Lib.hid h1
  have H0 := Lib.hid h0
  obtain ⟨a, n, c, rfl, hi, _, _⟩ := h1
  have hn := Lib.hid hi.1
  clear hi h0
  by_cases hbig : 400 < n
  · have d1 : decide (400 < (n : Int)) = true := decide_eq_true (by omega)
    go_enter Try.func3, Try.ntmps3
    go_wp2
    go_ret
    exact ⟨rfl, Below.refl _ _⟩
  · have d1 : decide (400 < (n : Int)) = false := decide_eq_false (by omega)
    have HL := Lib.hid (show X.length ≤ 900 by rw [hn.out]; omega)
    have m1 : Int.tmod (k : Int) 8 = ((k % 8 : Nat) : Int) := by rw [Int.tmod_eq_emod_of_nonneg (by omega)]; omega
    have m3 : (k : Int) % 8 = ((k % 8 : Nat) : Int) := by omega
    have m2 : IntKind.u64.wrap (((k % 8 : Nat) : Int)) = ((k % 8 : Nat) : Int) := IntWalk.u64_in _ (by omega)
    have HK := Lib.hid (show ∃ k8, k % 8 = k8 from ⟨_, rfl⟩)
    generalize k % 8 = k8 at *
    go_enter Try.func3, Try.ntmps3
    go_wp2_with fail
    (with_reducible refine (awake14_any _).mono ?_)
    rintro e w1 ⟨rfl, b1⟩
    have HB1 := Lib.hid b1
    have HV1 := Lib.hid (HV.out.below b1)
    clear b1
    go_wp2_with fail
    (with_reducible refine (epush_any (k : Int) HV1.out HL.out).mono ?_)
    rintro e w2 ⟨v2, rfl, hn2⟩
    have HN2 := Lib.hid hn2
    clear hn2
    go_wp2_with fail
    (with_reducible refine (rpush14_any (k : Int) (HV1.out.below HN2.out.b) HL.out).mono ?_)
    rintro e w3 ⟨v3, rfl, hn3⟩
    have HN3 := Lib.hid hn3
    clear hn3
    go_wp2_with fail
    (with_reducible refine (wsamev_any (HN2.out.wv.below HN3.out.b) HN3.out.wv).mono ?_)
    rintro e w4 ⟨rfl, b4⟩
    have hb4 := HB1.out.trans ((HN2.out.b.trans ((HN3.out.b.trans (b4.mono HN3.out.b.size)).mono HN2.out.b.size)).mono HB1.out.size)
    have HB4 := Lib.hid hb4
    have HV4 := Lib.hid (HV.out.below hb4)
    clear b4 hb4 HN2 HN3 HB1 HV1
    go_wp2_with fail
    (with_reducible refine (few_any HV4.out HL.out H0.out).mono ?_)
    rintro e w5 ⟨v5, rfl, hv5, b5⟩
    have HV5 := Lib.hid hv5
    have HB5 := Lib.hid b5
    clear hv5 b5
    go_wp2_with fail
    (with_reducible refine (epush_any (k8 : Int) HV5.out (by rw [fewE_len]; exact HL.out)).mono ?_)
    rintro e w6 ⟨v6, rfl, hn6⟩
    have HN6 := Lib.hid hn6
    clear hn6
    go_wp2_with fail
    (with_reducible refine (few_any ((HV4.out.below HB5.out).below HN6.out.b) HL.out H0.out).mono ?_)
    rintro e w7 ⟨v7, rfl, hv7, b7⟩
    have HV7 := Lib.hid hv7
    have HB7 := Lib.hid b7
    clear hv7 b7
    go_wp2_with fail
    (with_reducible refine (rpush14_any (k8 : Int) HV7.out (by rw [fewE_len]; exact HL.out)).mono ?_)
    rintro e w8 ⟨v8, rfl, hn8⟩
    have HN8 := Lib.hid hn8
    clear hn8
    go_wp2_with fail
    (with_reducible refine (wsamev_any ((HN6.out.wv.below HB7.out).below HN8.out.b) HN8.out.wv).mono ?_)
    rintro e w9 ⟨rfl, b9⟩
    go_wp2
    go_ret
    refine ⟨rfl, HB4.out.trans (Below.mono ?_ HB4.out.size)⟩
    exact HB5.out.trans ((HN6.out.b.trans ((HB7.out.trans ((HN8.out.b.trans (b9.mono HN8.out.b.size)).mono HB7.out.size)).mono HN6.out.b.size)).mono HB5.out.size)
end Go.Proofs.Ytjejnkkefkompaa
