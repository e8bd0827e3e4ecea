/-
  The walk of the statement EdfValid: it returns true.
-/
import Derived.Test.YtjejnkkefkompaaSrtN
namespace Go.Proofs.Ytjejnkkefkompaa
open Go Go.RowKit
set_option linter.unusedSimpArgs false
set_option linter.unusedVariables false

set_option maxRecDepth 100000 in
set_option maxHeartbeats 2000000 in
theorem valid14_law {W : World} {v : Value} {X : List Int} (h : WV W v X ∧ ∀ x, x ∈ X → 0 ≤ x) :
    Calls Try.prog 5 #[v] W fun e W' => e = .returned (.bool true) ∧ Below W.heap.size W W' := by
  obtain ⟨h1, h0⟩ := h
  have HV := Lib.hid h1
  have H0 := Lib.hid h0
  obtain ⟨a, n, c, rfl, hi, _, _⟩ := h1
  have hn := Lib.hid hi.1
  clear hi h0
  by_cases hbig : 400 < n
  · have d1 : decide (400 < (n : Int)) = true := decide_eq_true (by omega)
    go_enter Try.func5, Try.ntmps5
    go_wp2
    go_ret
    exact ⟨rfl, Below.refl _ _⟩
  · have d1 : decide (400 < (n : Int)) = false := decide_eq_false (by omega)
    have HL := Lib.hid (show X.length ≤ 900 by rw [hn.out]; omega)
    go_enter Try.func5, Try.ntmps5
    have HB0 := Lib.hid (Below.refl W.heap.size W)
    have HV0 := HV
    go_wp2_with fail
    (with_reducible refine (esorted_any HV0.out HL.out).mono ?_)
    rintro e w1 ⟨v1, rfl, hn1⟩
    have HS1 := Lib.hid hn1.wv
    have hb1 := hn1.b
    have HV1 := Lib.hid (HV0.out.below hb1)
    have HB1 := Lib.hid (HB0.out.trans (hb1.mono HB0.out.size))
    clear hn1 hb1 HB0 HV0
    go_wp2_with fail
    (with_reducible refine (awake14_any _).mono ?_)
    rintro e w2 ⟨rfl, hx⟩
    have hb2 := hx
    have HV2 := Lib.hid (HV1.out.below hb2)
    have HS2 := Lib.hid (HS1.out.below hb2)
    have HB2 := Lib.hid (HB1.out.trans (hb2.mono HB1.out.size))
    clear hx hb2 HB1 HV1 HS1
    obtain ⟨bx, hbx⟩ : ∃ b, decide (HeapE X) = b := ⟨_, rfl⟩
    have HBX := Lib.hid hbx
    clear hbx
    go_wp2_with fail
    (with_reducible refine (evalid_any HV2.out HL.out).mono ?_)
    rintro e w3 ⟨rfl, d3, hw3⟩
    rw [HBX.out]
    have hb3 := (show Below w2.heap.size w2 w3 by rw [hw3]; exact below_drewN _ _)
    have HV3 := Lib.hid (HV2.out.below hb3)
    have HS3 := Lib.hid (HS2.out.below hb3)
    have HB3 := Lib.hid (HB2.out.trans (hb3.mono HB2.out.size))
    clear hw3 hb3 HB2 HV2 HS2
    go_wp2_with fail
    (with_reducible refine (rvalid_any HV3.out HL.out).mono ?_)
    rintro e w4 ⟨rfl, d4, hw4⟩
    rw [HBX.out]
    have hb4 := (show Below w3.heap.size w3 w4 by rw [hw4]; exact below_drewN _ _)
    have HV4 := Lib.hid (HV3.out.below hb4)
    have HS4 := Lib.hid (HS3.out.below hb4)
    have HB4 := Lib.hid (HB3.out.trans (hb4.mono HB3.out.size))
    clear hw4 hb4 HB3 HV3 HS3
    go_wp2_with fail
    (with_reducible refine (few_any HV4.out HL.out H0.out).mono ?_)
    rintro e w5 ⟨v5, rfl, hv5, b5⟩
    have HF5 := Lib.hid hv5
    have hb5 := b5
    have HV5 := Lib.hid (HV4.out.below hb5)
    have HS5 := Lib.hid (HS4.out.below hb5)
    have HB5 := Lib.hid (HB4.out.trans (hb5.mono HB4.out.size))
    clear hv5 b5 hb5 HB4 HV4 HS4
    obtain ⟨by1, hby⟩ : ∃ b, decide (HeapE (fewE X)) = b := ⟨_, rfl⟩
    have HBY := Lib.hid hby
    clear hby
    go_wp2_with fail
    (with_reducible refine (evalid_any HF5.out (by rw [fewE_len]; exact HL.out)).mono ?_)
    rintro e w6 ⟨rfl, d6, hw6⟩
    rw [HBY.out]
    have hb6 := (show Below w5.heap.size w5 w6 by rw [hw6]; exact below_drewN _ _)
    have HV6 := Lib.hid (HV5.out.below hb6)
    have HS6 := Lib.hid (HS5.out.below hb6)
    have HB6 := Lib.hid (HB5.out.trans (hb6.mono HB5.out.size))
    clear hw6 hb6 HB5 HV5 HS5
    go_wp2_with fail
    (with_reducible refine (few_any HV6.out HL.out H0.out).mono ?_)
    rintro e w7 ⟨v7, rfl, hv7, b7⟩
    have HF7 := Lib.hid hv7
    have hb7 := b7
    have HV7 := Lib.hid (HV6.out.below hb7)
    have HS7 := Lib.hid (HS6.out.below hb7)
    have HB7 := Lib.hid (HB6.out.trans (hb7.mono HB6.out.size))
    clear hv7 b7 hb7 HF5 HB6 HV6 HS6
    go_wp2_with fail
    (with_reducible refine (rvalid_any HF7.out (by rw [fewE_len]; exact HL.out)).mono ?_)
    rintro e w8 ⟨rfl, d8, hw8⟩
    rw [HBY.out]
    have hb8 := (show Below w7.heap.size w7 w8 by rw [hw8]; exact below_drewN _ _)
    have HV8 := Lib.hid (HV7.out.below hb8)
    have HS8 := Lib.hid (HS7.out.below hb8)
    have HB8 := Lib.hid (HB7.out.trans (hb8.mono HB7.out.size))
    clear hw8 hb8 HB7 HV7 HS7
    go_wp2_with fail
    (with_reducible refine (rsorted_any HV8.out HL.out).mono ?_)
    rintro e w9 ⟨v9, rfl, hv9, b9⟩
    have HR9 := Lib.hid hv9
    have hb9 := b9
    have HV9 := Lib.hid (HV8.out.below hb9)
    have HS9 := Lib.hid (HS8.out.below hb9)
    have HB9 := Lib.hid (HB8.out.trans (hb9.mono HB8.out.size))
    clear hv9 b9 hb9 HB8 HV8 HS8
    go_wp2_with fail
    (with_reducible refine (wsamev_any HS9.out HR9.out).mono ?_)
    rintro e w10 ⟨rfl, b10⟩
    have hb10 := b10
    have HV10 := Lib.hid (HV9.out.below hb10)
    have HS10 := Lib.hid (HS9.out.below hb10)
    have HB10 := Lib.hid (HB9.out.trans (hb10.mono HB9.out.size))
    clear b10 hb10 HB9 HV9 HS9
    go_wp2_with fail
    (with_reducible refine (evalid_any HS10.out (by rw [srtE_len]; exact HL.out)).mono ?_)
    rintro e w11 ⟨rfl, d11, rfl⟩
    rw [decide_eq_true (srtE_heap X)]
    go_wp2
    go_ret
    exact ⟨rfl, HB10.out.trans ((below_drewN _ d11).mono HB10.out.size)⟩
end Go.Proofs.Ytjejnkkefkompaa
