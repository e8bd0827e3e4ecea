/-
  Contracts of the reference's Rounds and Fair.
-/
import Derived.Test.YtpaacpcmijhcmaaScRounds
namespace Go.Proofs.Ytpaacpcmijhcmaa
open Go Go.RowKit

theorem part_step {es : List (Int × Int)} {f k : Nat} {e : Int × Int} (hf : f ≤ k) (he : es[k]? = some e) : (es.drop f).take (k - f) ++ [e] = (es.drop f).take (k + 1 - f) := by
  rw [show k + 1 - f = k - f + 1 by omega, List.take_add_one, List.getElem?_drop, show f + (k - f) = k by omega, he]
  rfl

/-- What the loop of the reference's Rounds keeps. -/
def RRoundsR (w : World) (n : Int) (es : List (Int × Int)) (c f i : Value) (wr : World) : Prop :=
  ∃ k r g : Nat, k ≤ es.length ∧ g ≤ k ∧ r ≤ k ∧ i = .int .i64 k ∧ c = .int .i64 r ∧ f = .int .i64 g ∧ r + rnds n ((es.drop g).take (k - g)) (es.drop k) = rnds n [] es ∧ Below w.heap.size w wr

set_option maxHeartbeats 1000000 in
theorem rrounds_any {w : World} {a : Option Addr} {L : Nat} {es : List (Int × Int)} (h : Ents w a L es) (c : Nat) (hc : L ≤ c) (hL : L ≤ 1000000) (n : Int) (hnm : n ≤ 9223372036854775807) :
    Calls Try.prog 21 #[.slice a L c, .int .i64 n] w (Gives (.int .i64 (rndsOf n es)) w) := by
  have hl := h.1
  have H := Lib.hid h
  clear h
  by_cases hn : n < 1
  · have e0 : rndsOf n es = 0 := if_pos hn
    rw [e0]
    clear e0 hl
    go_enter Try.func21, Try.ntmps21
    go_wp2
    go_ret
    exact ⟨rfl, Below.refl _ _⟩
  · have e0 : rndsOf n es = rnds n [] es := if_neg hn
    rw [e0]
    clear e0
    subst hl
    have hn1 : 1 ≤ n := by omega
    obtain ⟨R, hR⟩ : ∃ R, rnds n [] es = R := ⟨_, rfl⟩
    rw [hR]
    have HR := Lib.hid hR
    clear hR
    go_enter Try.func21, Try.ntmps21
    go_wp2_with fail
    go_loopw [5, 6, 7] (fun c f i wr => RRoundsR w n es c f i wr) (fun _ _ i _ => es.length - (intOf i).toNat)
    case atStart => exact ⟨0, 0, 0, by omega, by omega, by omega, rfl, rfl, rfl, by simp, Below.refl _ _⟩
    case round =>
      obtain ⟨k, r, f, hk, hf, hr, rfl, rfl, rfl, hsum, hb⟩ := hrel
      have HS := Lib.hid hsum
      have HB := Lib.hid hb
      clear hsum hb
      by_cases hlt : k < es.length
      · obtain ⟨x, k1, v1, rfl, he, _, _, _⟩ := (H.out.below HB.out).at_ hlt
        have HE := Lib.hid he
        have hp := part_step hf he
        have HP := Lib.hid hp
        have HC := Lib.hid ((H.out.below HB.out).sub f (k + 1 - f) (by omega))
        clear he hp
        have hcf : ¬ c = f := by omega
        by_cases hgt : n < (k : Int) + 1 - (f : Int)
        · obtain ⟨q, hq⟩ : ∃ q, compB n ((es.drop f).take (k + 1 - f)) = q := ⟨_, rfl⟩
          have HQ := Lib.hid hq
          clear hq
          go_wp2_with fail
          refine (complete_any HC.out _ n hnm).mono ?_
          rintro e w2 ⟨rfl, hb2⟩
          have HB2 := Lib.hid (HB.out.trans (hb2.mono HB.out.size))
          clear hb2 HB HC
          rw [HQ.out]
          cases q with
          | true =>
            have HS2 := Lib.hid (rounds_done HS.out HE.out (by rw [HP.out]; exact HQ.out))
            clear HS HE HP
            go_wp2_with fail
            go_roundw
            case rel => exact ⟨k + 1, r + 1, k + 1, by omega, by omega, by omega, by go_num, by go_num, by go_num, by rw [Nat.sub_self, List.take_zero]; exact HS2.out, HB2.out⟩
            case measure => simp [intOf]; omega
          | false =>
            have HS2 := Lib.hid (rounds_more HS.out HE.out (by rw [HP.out]; exact HQ.out))
            rw [HP.out] at HS2
            clear HS HE HP
            go_wp2_with fail
            go_roundw
            case rel => exact ⟨k + 1, r, f, by omega, by omega, by omega, by go_num, rfl, rfl, HS2.out, HB2.out⟩
            case measure => simp [intOf]; omega
        · have hno : compB n ((es.drop f).take (k + 1 - f)) = false := (compB_false _ _).2 (fun hcm => by
            have := hcm.len hn1
            rw [List.length_take, List.length_drop] at this
            omega)
          have HS2 := Lib.hid (rounds_more HS.out HE.out (by rw [HP.out]; exact hno))
          rw [HP.out] at HS2
          clear HS HE HP HC hno
          go_wp2_with fail
          go_roundw
          case rel => exact ⟨k + 1, r, f, by omega, by omega, by omega, by go_num, by first | rfl | trivial, by first | rfl | trivial, HS2.out, HB.out⟩
          case measure => simp [intOf]; omega
      · obtain rfl : k = es.length := by omega
        have hr' : r = R := by
          have := HS.out
          rw [List.drop_length] at this
          rw [← HR.out, ← this]
          cases (es.drop f).take (es.length - f) <;> rfl
        subst hr'
        clear HS
        go_wp2
        go_ret
        exact ⟨rfl, HB.out⟩

/-- Whether a list is fair is returned. -/
def FairR (n k : Int) (es : List (Int × Int)) (w : World) (e : Ending) (w' : World) : Prop :=
  ∃ b : Bool, e = .returned (.bool b) ∧ (b = true ↔ 1 ≤ n ∧ 1 ≤ k ∧ Fairly n k.toNat es) ∧ Below w.heap.size w w'

/-- What the loop of the reference's Fair keeps. -/
def RFairR (w : World) (n : Int) (k : Nat) (es : List (Int × Int)) (i : Value) (wr : World) : Prop :=
  ∃ j : Nat, (j : Int) ≤ max ((es.length : Int) - k + 1) 0 ∧ i = .int .i64 j ∧ (∀ q, q < j → Comp n ((es.drop q).take k)) ∧ Below w.heap.size w wr

set_option maxHeartbeats 1000000 in
theorem rfair_any {w : World} {a : Option Addr} {L : Nat} {es : List (Int × Int)} (h : Ents w a L es) (c : Nat) (hc : L ≤ c) (hL : L ≤ 1000000) (n k : Int) (hnm : n ≤ 9223372036854775807) (hkm : k ≤ 9223372036854775807) :
    Calls Try.prog 23 #[.slice a L c, .int .i64 n, .int .i64 k] w (FairR n k es w) := by
  have hl := h.1
  have H := Lib.hid h
  clear h
  by_cases hn : n < 1
  · clear hl
    go_enter Try.func23, Try.ntmps23
    go_wp2
    go_ret
    exact ⟨false, rfl, by simp; omega, Below.refl _ _⟩
  · by_cases hk : k < 1
    · clear hl
      go_enter Try.func23, Try.ntmps23
      go_wp2
      go_ret
      exact ⟨false, rfl, by simp; omega, Below.refl _ _⟩
    · subst hl
      obtain ⟨K, rfl⟩ : ∃ K : Nat, k = (K : Int) := ⟨k.toNat, by omega⟩
      go_enter Try.func23, Try.ntmps23
      go_wp2_with fail
      go_loopw [7] (fun i wr => RFairR w n K es i wr) (fun i _ => es.length + 1 - (intOf i).toNat)
      case atStart => exact ⟨0, by omega, rfl, fun q hq => by omega, Below.refl _ _⟩
      case round =>
        obtain ⟨j, hj, rfl, hall, hb⟩ := hrel
        have HA := Lib.hid hall
        have HB := Lib.hid hb
        clear hall hb
        by_cases hlt : (j : Int) ≤ (es.length : Int) - K
        · obtain ⟨x, _, _, rfl, _, _, _, _⟩ := (H.out.below HB.out).at_ (i := j) (by omega)
          have HC := Lib.hid ((H.out.below HB.out).sub j K (by omega))
          have hcf : ¬ c = j := by omega
          have hjk : j + K - j = K := by omega
          obtain ⟨q, hq⟩ : ∃ q, compB n ((es.drop j).take K) = q := ⟨_, rfl⟩
          have HQ := Lib.hid hq
          clear hq
          go_wp2_with fail
          refine (complete_any HC.out _ n hnm).mono ?_
          rintro e w2 ⟨rfl, hb2⟩
          have HB2 := Lib.hid (HB.out.trans (hb2.mono HB.out.size))
          clear hb2 HB HC
          rw [HQ.out]
          cases q with
          | true =>
            go_wp2_with fail
            go_roundw
            case rel => exact ⟨j + 1, by omega, by go_num, fun q hq => by
              by_cases hqj : q < j
              · exact HA.out q hqj
              · obtain rfl : q = j := by omega
                exact (compB_iff _ _).1 HQ.out, HB2.out⟩
            case measure => simp [intOf]; omega
          | false =>
            go_wp2
            go_ret
            refine ⟨false, rfl, ?_, HB2.out⟩
            simp only [Bool.false_eq_true, false_iff]
            rintro ⟨_, _, hf⟩
            exact (compB_false _ _).1 HQ.out (by simpa using hf j (by omega))
        · go_wp2
          go_ret
          refine ⟨true, rfl, ?_, HB.out⟩
          simp only [true_iff]
          refine ⟨by omega, by omega, fun q hq => ?_⟩
          rw [Int.toNat_natCast] at hq ⊢
          exact HA.out q (by omega)
end Go.Proofs.Ytpaacpcmijhcmaa
