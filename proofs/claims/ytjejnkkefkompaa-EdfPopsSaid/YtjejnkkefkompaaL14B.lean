/-
  The walk of the statement EdfPops: it returns true.
-/
import Derived.Test.YtjejnkkefkompaaEdW
namespace Go.Proofs.Ytjejnkkefkompaa
open Go Go.RowKit
set_option linter.unusedSimpArgs false
set_option linter.unusedVariables false

/-- What a pop gives, of any list. -/
def popK (X : List Int) : Int := if X.length = 0 then 0 else elt X 0
def popL (X : List Int) : List Int := if X.length = 0 then [] else popE X
def popB (X : List Int) : Bool := decide (0 < X.length)
theorem epopx_any {w : World} {v : Value} {X : List Int} (h : WV w v X) (hl : X.length ≤ 900) :
    Calls Try.prog 14 #[v] w fun e w' => ∃ v', e = .returned (.tuple #[.int .u64 (popK X), v', .bool (popB X)]) ∧ WV w' v' (popL X) ∧ Below w.heap.size w w' := by
  by_cases h0 : X.length = 0
  · obtain rfl := List.eq_nil_of_length_eq_zero h0
    refine (epop_none h).mono ?_
    rintro e w' ⟨rfl, rfl⟩
    exact ⟨_, rfl, WV.nil _, Below.refl _ _⟩
  · refine (epop_any h (by omega) hl).mono ?_
    rintro e w' ⟨v', rfl, hn⟩
    unfold popK popL popB
    rw [if_neg h0, if_neg h0, decide_eq_true (show 0 < X.length by omega)]
    exact ⟨_, rfl, hn.wv, hn.b⟩
theorem rpopx_any {w : World} {v : Value} {X : List Int} (h : WV w v X) (hl : X.length ≤ 900) :
    Calls Try.prog 15 #[v] w fun e w' => ∃ v', e = .returned (.tuple #[.int .u64 (popK X), v', .bool (popB X)]) ∧ WV w' v' (popL X) ∧ Below w.heap.size w w' := by
  by_cases h0 : X.length = 0
  · obtain rfl := List.eq_nil_of_length_eq_zero h0
    refine (rpop14_none h).mono ?_
    rintro e w' ⟨rfl, rfl⟩
    exact ⟨_, rfl, WV.nil _, Below.refl _ _⟩
  · refine (rpop14_any h (by omega) hl).mono ?_
    rintro e w' ⟨v', rfl, hn⟩
    unfold popK popL popB
    rw [if_neg h0, if_neg h0, decide_eq_true (show 0 < X.length by omega)]
    exact ⟨_, rfl, hn.wv, hn.b⟩

set_option maxRecDepth 100000 in
set_option maxHeartbeats 4000000 in
theorem pops14_law {W : World} {v : Value} {X : List Int} (h : WV W v X ∧ ∀ x, x ∈ X → 0 ≤ x) :
    Calls Try.prog 4 #[v] W fun e W' => e = .returned (.bool true) ∧ Below W.heap.size W W' := by
  obtain ⟨h1, h0⟩ := h
  have HV := Lib.hid h1
  have H0 := Lib.hid h0
  obtain ⟨a, n, c, rfl, hi, _, _⟩ := h1
  have hn := Lib.hid hi.1
  clear hi h0
  by_cases hbig : 400 < n
  · have d1 : decide (400 < (n : Int)) = true := decide_eq_true (by omega)
    go_enter Try.func4, Try.ntmps4
    go_wp2
    go_ret
    exact ⟨rfl, Below.refl _ _⟩
  · have d1 : decide (400 < (n : Int)) = false := decide_eq_false (by omega)
    have HL := Lib.hid (show X.length ≤ 900 by rw [hn.out]; omega)
    have HLF := Lib.hid (show (fewE X).length ≤ 900 by rw [fewE_len]; exact HL.out)
    obtain ⟨k1, hk1⟩ : ∃ k, popK X = k := ⟨_, rfl⟩
    obtain ⟨q1, hq1⟩ : ∃ k, popB X = k := ⟨_, rfl⟩
    obtain ⟨k2, hk2⟩ : ∃ k, popK (fewE X) = k := ⟨_, rfl⟩
    obtain ⟨q2, hq2⟩ : ∃ k, popB (fewE X) = k := ⟨_, rfl⟩
    have HE := Lib.hid (And.intro (And.intro hk1 hq1) (And.intro hk2 hq2))
    have hqq1 : (q1 == q1) = true := by cases q1 <;> rfl
    have hqq2 : (q2 == q2) = true := by cases q2 <;> rfl
    clear hk1 hq1 hk2 hq2
    go_enter Try.func4, Try.ntmps4
    go_wp2_with fail
    (with_reducible refine (epopx_any HV.out HL.out).mono ?_)
    rintro e w1 ⟨v1, rfl, hv1, b1⟩
    rw [HE.out.1.1, HE.out.1.2]
    have HV1 := Lib.hid hv1
    have HB1 := Lib.hid b1
    clear hv1 b1
    go_wp2_with fail
    (with_reducible refine (rpopx_any (HV.out.below HB1.out) HL.out).mono ?_)
    rintro e w2 ⟨v2, rfl, hv2, b2⟩
    rw [HE.out.1.1, HE.out.1.2]
    have HV2 := Lib.hid (And.intro (HV1.out.below b2) hv2)
    have HB2 := Lib.hid (HB1.out.trans (b2.mono HB1.out.size))
    clear hv2 b2 HV1 HB1
    go_wp2_with fail
    (with_reducible refine (few_any (HV.out.below HB2.out) HL.out H0.out).mono ?_)
    rintro e w3 ⟨v3, rfl, hv3, b3⟩
    have HV3 := Lib.hid (And.intro (And.intro (HV2.out.1.below b3) (HV2.out.2.below b3)) hv3)
    have HB3 := Lib.hid (HB2.out.trans (b3.mono HB2.out.size))
    clear hv3 b3 HV2 HB2
    go_wp2_with fail
    (with_reducible refine (epopx_any HV3.out.2 HLF.out).mono ?_)
    rintro e w4 ⟨v4, rfl, hv4, b4⟩
    rw [HE.out.2.1, HE.out.2.2]
    have HV4 := Lib.hid (And.intro (And.intro (HV3.out.1.1.below b4) (HV3.out.1.2.below b4)) hv4)
    have HB4 := Lib.hid (HB3.out.trans (b4.mono HB3.out.size))
    clear hv4 b4 HV3 HB3
    go_wp2_with fail
    (with_reducible refine (few_any (HV.out.below HB4.out) HL.out H0.out).mono ?_)
    rintro e w5 ⟨v5, rfl, hv5, b5⟩
    have HV5 := Lib.hid (And.intro (And.intro (HV4.out.1.1.below b5) (HV4.out.1.2.below b5)) (And.intro (HV4.out.2.below b5) hv5))
    have HB5 := Lib.hid (HB4.out.trans (b5.mono HB4.out.size))
    clear hv5 b5 HV4 HB4
    go_wp2_with fail
    (with_reducible refine (rpopx_any HV5.out.2.2 HLF.out).mono ?_)
    rintro e w6 ⟨v6, rfl, hv6, b6⟩
    rw [HE.out.2.1, HE.out.2.2]
    have HV6 := Lib.hid (And.intro (And.intro (HV5.out.1.1.below b6) (HV5.out.1.2.below b6)) (And.intro (HV5.out.2.1.below b6) hv6))
    have HB6 := Lib.hid (HB5.out.trans (b6.mono HB5.out.size))
    clear hv6 b6 HV5 HB5
    go_wp2_with fail
    (with_reducible refine (awake14_any _).mono ?_)
    rintro e w7 ⟨rfl, b7⟩
    have HV7 := Lib.hid (And.intro (And.intro (HV6.out.1.1.below b7) (HV6.out.1.2.below b7)) (And.intro (HV6.out.2.1.below b7) (HV6.out.2.2.below b7)))
    have HB7 := Lib.hid (HB6.out.trans (b7.mono HB6.out.size))
    clear b7 HV6 HB6
    go_wp2_with fail
    (with_reducible refine (wsamev_any HV7.out.1.1 HV7.out.1.2).mono ?_)
    rintro e w8 ⟨rfl, b8⟩
    have HV8 := Lib.hid (And.intro (HV7.out.2.1.below b8) (HV7.out.2.2.below b8))
    have HB8 := Lib.hid (HB7.out.trans (b8.mono HB7.out.size))
    clear b8 HV7 HB7
    go_wp2_with fail
    (with_reducible refine (wsamev_any HV8.out.1 HV8.out.2).mono ?_)
    rintro e w9 ⟨rfl, b9⟩
    go_wp2
    go_ret
    exact ⟨rfl, HB8.out.trans (b9.mono HB8.out.size)⟩
end Go.Proofs.Ytjejnkkefkompaa
