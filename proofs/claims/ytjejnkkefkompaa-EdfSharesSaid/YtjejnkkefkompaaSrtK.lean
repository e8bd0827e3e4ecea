/-
  slices.Sort at uint64: the sort's own loop, and slices.Sort.
-/
import Derived.Test.YtjejnkkefkompaaSrtE
import Derived.Test.YtjejnkkefkompaaSrtG
import Derived.Test.YtjejnkkefkompaaSrtI
import Derived.Test.YtjejnkkefkompaaSrtJ
namespace Go.Proofs.Ytjejnkkefkompaa
open Go Go.RowKit Go.Sort
set_option linter.unusedSimpArgs false
set_option linter.unusedVariables false

/-- What is known where the loop stands at [x, y) of dk. -/
def PdI (a b : Nat) (d : Array Int) (x y : Nat) (dk : Array Int) : Prop :=
  Below ltW x y dk ∧ ∀ R, PermIn x y dk R → SortedIn ltW x y R → PermIn a b d R ∧ SortedIn ltW a b R
theorem PdI.perm {a b x y : Nat} {d dk d2 : Array Int} (h : PdI a b d x y dk) (hp : PermIn x y dk d2) (hy : y ≤ dk.size) : PdI a b d x y d2 :=
  ⟨h.1.perm hy hp, fun R h1 h2 => h.2 R (permIn_trans _ _ _ x y hp h1) h2⟩
set_option maxRecDepth 100000 in
set_option maxHeartbeats 32000000 in
theorem pdq_any : ∀ (m : Nat) (w : World) (g n c a b l : Nat) (d : Array Int), RowA w g n c d → a ≤ b → b ≤ n → n ≤ 100000 → b - a ≤ m → l ≤ 1000 → Below ltW a b d →
    Calls Try.prog 26 #[.slice (some ⟨g, 0, none⟩) n c, .int .i64 a, .int .i64 b, .int .i64 l] w fun e w' => ∃ d' : Array Int, e = .returned (.tuple #[]) ∧ PermIn a b d d' ∧ SortedIn ltW a b d' ∧ RowA w' g n c d' ∧ Fr [g] w w' := by
  intro m0
  induction m0 using Nat.strongRecOn with
  | ind m0 ih =>
  intro w g n c a b l d h hab hb hn hm0 hl0 hB
  have HIH := Lib.hid ih
  have H := Lib.hid h
  have HBL := Lib.hid hB
  have hnI : (n : Int) ≤ 100000 := by omega
  clear ih h hB
  go_enter Try.func26, Try.ntmps26
  go_wp2_with fail
  go_loopw [1, 2, 3, 8, 9] (fun v1 v2 v3 v8 v9 wr => ∃ (x y l : Nat) (wb wp : Bool) (dk : Array Int), v1 = .int .i64 x ∧ v2 = .int .i64 y ∧ v3 = .int .i64 l ∧ v8 = .bool wb ∧ v9 = .bool wp ∧ x ≤ y ∧ y ≤ n ∧ y - x ≤ m0 ∧ l ≤ 1000 ∧ PdI a b d x y dk ∧ RowA wr g n c dk ∧ Fr [g] w wr) (fun v1 v2 _ _ _ _ => (intOf v2 - intOf v1).toNat)
  case atStart => exact ⟨a, b, l, true, true, d, rfl, rfl, rfl, rfl, rfl, hab, hb, hm0, hl0, ⟨HBL.out, fun R h1 h2 => ⟨h1, h2⟩⟩, H.out, Fr.refl _ _⟩
  case round =>
    obtain ⟨x, y, l, wb, wp, dk, rfl, rfl, rfl, rfl, rfl, hxy, hyn, hym, hl, hpd, hr, hf⟩ := hrel
    have HPD := Lib.hid hpd
    have HR := Lib.hid hr
    have HF := Lib.hid hf
    clear hpd hr hf H HBL
    obtain ⟨m, hm⟩ : ∃ m, y - x = m := ⟨_, rfl⟩
    have hmI : (y : Int) - (x : Int) = (m : Int) := by omega
    have HM := Lib.hid hm
    by_cases h12 : m ≤ 12
    · have d12 : decide ((m : Int) ≤ 12) = true := decide_eq_true (by omega)
      clear hm
      go_wp2_with fail
      (with_reducible refine (insertion_any HR.out hxy hyn hn).mono ?_)
      rintro e w1 ⟨rfl, hr1, hf1⟩
      have hin := insertionSort_holds swo_ltW dk x y hxy (by rw [HR.out.size]; exact hyn)
      have HIN := Lib.hid (HPD.out.2 _ hin.1 hin.2)
      have HR1 := Lib.hid hr1
      have HF1 := Lib.hid (HF.out.trans hf1)
      clear hr1 hf1 hin
      go_wp2_with fail
      (first | refine bodyPost_ret (results_none rfl _ _ _) rfl ?_ | go_end0)
      exact ⟨_, rfl, HIN.out.1, HIN.out.2, HR1.out, HF1.out⟩
    · have d12 : decide ((m : Int) ≤ 12) = false := decide_eq_false (by omega)
      by_cases hl00 : l = 0
      · have q0 : ((l : Int) == 0) = true := by simp; omega
        clear hm
        go_wp2_with fail
        (with_reducible refine (heap_any HR.out (by have := HM.out; omega) hyn hn).mono ?_)
        rintro e w1 ⟨rfl, hr1, hf1⟩
        have hin := heapSort_holds swo_ltW dk x y hxy (by rw [HR.out.size]; exact hyn)
        have HIN := Lib.hid (HPD.out.2 _ hin.1 hin.2)
        have HR1 := Lib.hid hr1
        have HF1 := Lib.hid (HF.out.trans hf1)
        clear hr1 hf1 hin
        go_wp2_with fail
        (first | refine bodyPost_ret (results_none rfl _ _ _) rfl ?_ | go_end0)
        exact ⟨_, rfl, HIN.out.1, HIN.out.2, HR1.out, HF1.out⟩
      · have q0 : ((l : Int) == 0) = false := by simp; omega
        clear hm
        have hx13 : x + 13 ≤ y := by have := HM.out; omega
        obtain ⟨l1, hl1⟩ : ∃ k, l - 1 = k := ⟨_, rfl⟩
        have hl1I : (l : Int) - 1 = (l1 : Int) := by omega
        have hl1N : l1 ≤ 1000 := by omega
        clear hl1
        go_upto_if 35 with fail
        go_cut [3] from 36 to 41 (fun v wx => ∃ (k : Nat) (d1 : Array Int), v = .int .i64 k ∧ k ≤ 1000 ∧ PermIn x y dk d1 ∧ RowA wx g n c d1 ∧ Fr [g] w wx)
        case first =>
          cases wb with
          | true =>
            go_wp2_with fail
            go_meet
            case rel => exact ⟨l, dk, rfl, hl, permIn_refl _ _ _, HR.out, HF.out⟩
          | false =>
            go_wp2_with fail
            (with_reducible refine (break_any HR.out (by omega) hyn hn).mono ?_)
            rintro e w1 ⟨d1, rfl, hp1, hr1, hf1⟩
            have HP1 := Lib.hid hp1
            have HR1 := Lib.hid hr1
            have HF1 := Lib.hid (HF.out.trans hf1)
            clear hp1 hr1 hf1
            go_wp2_with fail
            go_meet
            case rel => exact ⟨l1, d1, by go_num, hl1N, HP1.out, HR1.out, HF1.out⟩
        case rest =>
        obtain ⟨l2, d1, rfl, hl2, hp1, hr1, hf1⟩ := hcut
        have HP1 := Lib.hid hp1
        have HR1 := Lib.hid hr1
        have HF1 := Lib.hid hf1
        clear hp1 hr1 hf1 q0 hl00
        go_wp2_with fail
        (with_reducible refine (choose_any HR1.out hx13 hyn hn).mono ?_)
        rintro e w2 ⟨pv, hx, rfl, hpv1, hpv2, hhx, hr2, hf2⟩
        have HR2 := Lib.hid hr2
        have HF2 := Lib.hid (HF1.out.trans hf2)
        clear hr2 hf2 HR1 HF1
        go_upto_if 50 with fail
        go_cut [11, 12] from 50 to 60 (fun p v wx => ∃ (pw hy : Nat) (d2 : Array Int), p = .int .i64 pw ∧ v = .int .i64 hy ∧ x ≤ pw ∧ pw < y ∧ hy ≤ 2 ∧ PermIn x y dk d2 ∧ RowA wx g n c d2 ∧ Fr [g] w wx)
        case first =>
          by_cases h2 : hx = 2
          · have q2 : ((hx : Int) == 2) = true := by simp; omega
            clear h2
            obtain ⟨pw, hpw⟩ : ∃ k, (y - 1) - (pv - x) = k := ⟨_, rfl⟩
            have hpwI : (y : Int) - 1 - ((pv : Int) - (x : Int)) = (pw : Int) := by omega
            have hpw1 : x ≤ pw := by omega
            have hpw2 : pw < y := by omega
            clear hpw
            go_wp2_with fail
            (with_reducible refine (reverse_any HR2.out (by omega) hyn hn).mono ?_)
            rintro e w3 ⟨rfl, hr3, hf3⟩
            have HP3 := Lib.hid (permIn_trans _ _ _ x y HP1.out (reverseRange_holds d1 x y (by omega) (by rw [HR2.out.size]; exact hyn)))
            have HR3 := Lib.hid hr3
            have HF3 := Lib.hid (HF2.out.trans hf3)
            clear hr3 hf3
            go_wp2_with fail
            go_meet
            case rel => exact ⟨pw, 1, _, by go_num, rfl, hpw1, hpw2, by omega, HP3.out, HR3.out, HF3.out⟩
          · have q2 : ((hx : Int) == 2) = false := by simp; omega
            go_wp2_with fail
            go_meet
            case rel => exact ⟨pv, hx, d1, rfl, rfl, hpv1, hpv2, hhx, HP1.out, HR2.out, HF2.out⟩
        case rest =>
        obtain ⟨pw, hy, d2, rfl, rfl, hpw1, hpw2, hhy, hp3, hr3, hf3⟩ := hcut
        have HP3 := Lib.hid hp3
        have HR3 := Lib.hid hr3
        have HF3 := Lib.hid hf3
        clear hp3 hr3 hf3 HP1 HR2 HF2 hhx
        go_upto_region 15 with fail
        obtain ⟨Wk, hWk⟩ : ∃ Wk, wc = Wk := ⟨_, rfl⟩
        subst hWk
        go_cut [68] from 61 to 68 (fun v wx => ∃ s : Bool, v = .bool s ∧ wx = wc)
        case first =>
          by_cases h1 : hy = 1
          · have q1 : ((hy : Int) == 1) = true := by simp; omega
            clear h1
            cases wb with
            | true =>
              cases wp with
              | true =>
                go_wp2_with fail
                go_meet
                case rel => exact ⟨_, rfl, rfl⟩
              | false =>
                go_wp2_with fail
                go_meet
                case rel => exact ⟨_, rfl, rfl⟩
            | false =>
              go_wp2_with fail
              go_meet
              case rel => exact ⟨_, rfl, rfl⟩
          · have q1 : ((hy : Int) == 1) = false := by simp; omega
            cases wb with
            | true =>
              cases wp with
              | true =>
                go_wp2_with fail
                go_meet
                case rel => exact ⟨_, rfl, rfl⟩
              | false =>
                go_wp2_with fail
                go_meet
                case rel => exact ⟨_, rfl, rfl⟩
            | false =>
              go_wp2_with fail
              go_meet
              case rel => exact ⟨_, rfl, rfl⟩
        case rest =>
        obtain ⟨sp, rfl, rfl⟩ := hcut
        go_upto_if 68 with fail
        go_cut [] from 68 to 72 (fun wx => ∃ d3 : Array Int, PermIn x y dk d3 ∧ RowA wx g n c d3 ∧ Fr [g] w wx)
        case first =>
          cases sp with
          | false =>
            go_wp2_with fail
            go_meet
            case rel => exact ⟨d2, HP3.out, HR3.out, HF3.out⟩
          | true =>
            go_wp2_with fail
            (with_reducible refine (partial_any HR3.out (by omega) hyn hn).mono ?_)
            rintro e w4 ⟨d4, done, hpd, rfl, hr4, hf4⟩
            have hpi := partialInsertionSort_holds swo_ltW d2 x y (by omega) (by rw [HR3.out.size]; exact hyn) (HPD.out.1.perm (by rw [HR.out.size]; exact hyn) HP3.out)
            rw [hpd] at hpi
            have HPI := Lib.hid hpi
            have HR4 := Lib.hid hr4
            have HF4 := Lib.hid (HF3.out.trans hf4)
            have HP4 := Lib.hid (permIn_trans _ _ _ x y HP3.out hpi.1)
            clear hr4 hf4 hpi hpd
            cases done with
            | true =>
              have HIN := Lib.hid (HPD.out.2 _ HP4.out (HPI.out.2 rfl))
              go_wp2_with fail
              (first | refine bodyPost_ret (results_none rfl _ _ _) rfl ?_ | go_end0)
              exact ⟨_, rfl, HIN.out.1, HIN.out.2, HR4.out, HF4.out⟩
            | false =>
              clear HPI
              go_wp2_with fail
              go_meet
              case rel => exact ⟨d4, HP4.out, HR4.out, HF4.out⟩
        case rest =>
        obtain ⟨d3, hp4, hr4, hf4⟩ := hcut
        have HPD3 := Lib.hid (HPD.out.perm hp4 (by rw [HR.out.size]; exact hyn))
        have HR4 := Lib.hid hr4
        have HF4 := Lib.hid hf4
        clear hp4 hr4 hf4 HP3 HR3 HF3 HPD HR HF
        go_upto_region 17 with fail
        obtain ⟨e, he⟩ : ∃ e, x - 1 = e := ⟨_, rfl⟩
        obtain ⟨ve, hve⟩ : ∃ v, d3[e]! = v := ⟨_, rfl⟩
        obtain ⟨vp, hvp⟩ : ∃ v, d3[pw]! = v := ⟨_, rfl⟩
        obtain ⟨s17, hs17⟩ : ∃ s, (decide (0 < x) && !ltW ve vp) = s := ⟨_, rfl⟩
        have HE0 := Lib.hid he
        have HVE := Lib.hid hve
        have HVP := Lib.hid hvp
        have HS17 := Lib.hid hs17
        clear he hve hvp hs17
        go_cut [87] from 73 to 87 (fun v wx => v = .bool s17 ∧ ∃ k, wx = wc.drewN k)
        case first =>
          have hs := HS17.out
          by_cases hx0 : 0 < x
          · have dg : decide ((0 : Int) < (x : Int)) = true := decide_eq_true (by omega)
            have heI : (x : Int) - 1 = (e : Int) := by have := HE0.out; omega
            have b1' : e < n := by have := HE0.out; omega
            have b2' : pw < n := by omega
            have c1 := HR4.out.cell b1'
            have c2 := HR4.out.cell b2'
            rw [HVE.out] at c1
            rw [HVP.out] at c2
            have hq := less_any ve vp
            rw [decide_eq_true hx0, Bool.true_and] at hs
            obtain ⟨lb, hlb⟩ : ∃ lb, ltW ve vp = lb := ⟨_, rfl⟩
            rw [hlb] at hq hs
            clear hlb HS17
            cases lb with
            | true =>
              obtain rfl : s17 = false := by simpa using hs.symm
              go_quiet ((go_at_call 34; exact Calls.quiet_of_same (hq _)))
              (try go_wp2_with fail)
              go_meet
              case rel => exact ⟨rfl, nq, rfl⟩
            | false =>
              obtain rfl : s17 = true := by simpa using hs.symm
              go_quiet ((go_at_call 34; exact Calls.quiet_of_same (hq _)))
              (try go_wp2_with fail)
              go_meet
              case rel => exact ⟨rfl, nq, rfl⟩
          · have dg : decide ((0 : Int) < (x : Int)) = false := decide_eq_false (by omega)
            rw [decide_eq_false hx0, Bool.false_and] at hs
            clear HS17
            obtain rfl : s17 = false := hs.symm
            go_quiet (fail)
            (try go_wp2_with fail)
            go_meet
            case rel => exact ⟨rfl, nq, rfl⟩
        case rest =>
        obtain ⟨rfl, kT, rfl⟩ := hcut
        have HR5 := Lib.hid (HR4.out.drewN kT)
        have HF5 := Lib.hid (HF4.out.drewN kT)
        clear HR4 HF4
        generalize wc.drewN kT = W5 at *
        have hys : y ≤ d3.size := by rw [HR5.out.size]; exact hyn
        have HYS := Lib.hid hys
        clear hys
        cases s17 with
        | true =>
          have hx0 := up_le HS17.out
          have hnl : ltW d3[x - 1]! d3[pw]! = false := by
            have := HS17.out
            rw [Bool.and_eq_true] at this
            rw [HE0.out, HVE.out, HVP.out]
            simpa using this.2
          have HNL := Lib.hid hnl
          clear hnl
          go_wp2_with fail
          (with_reducible refine (parteq_any HR5.out hpw1 hpw2 hyn hn).mono ?_)
          rintro e w6 ⟨mid, d4, hx4, rfl, hr6, hf6⟩
          obtain ⟨k1, k2, k3, k4, k5⟩ := round_eq swo_ltW (partitionEqual_holds _) hx0 hpw1 hpw2 HYS.out HPD3.out.1 HNL.out hx4
          have HPD6 : Hid (PdI a b d mid y d4) := Lib.hid ⟨k4, fun R r1 r2 => HPD3.out.2 R (k5 R r1 r2).1 (k5 R r1 r2).2⟩
          have HR6 := Lib.hid hr6
          have HF6 := Lib.hid (HF5.out.trans hf6)
          clear hx4 hr6 hf6 k3 k4 k5 HR5 HF5
          have hM := HM.out
          clear HM
          go_wp2_with fail
          go_roundw
          case rel => exact ⟨mid, y, l2, wb, wp, d4, rfl, rfl, rfl, rfl, rfl, by omega, hyn, by omega, hl2, HPD6.out, HR6.out, HF6.out⟩
          case measure => simp [intOf] <;> omega
        | false =>
          go_wp2_with fail
          (with_reducible refine (partition_any HR5.out hpw1 hpw2 hyn hn).mono ?_)
          rintro e w6 ⟨mid, ap, d4, hx4, rfl, hr6, hf6⟩
          obtain ⟨k1, k2, k3, k4, k5, k6, k7⟩ := round_part swo_ltW (partition_holds _) hpw1 hpw2 HYS.out HPD3.out.1 hx4
          have HR6 := Lib.hid hr6
          have HF6 := Lib.hid (HF5.out.trans hf6)
          have K4 := Lib.hid k4
          have K5 := Lib.hid k5
          have K6 := Lib.hid k6
          have K7 := Lib.hid k7
          clear hx4 hr6 hf6 k3 k4 k5 k6 k7 HR5 HF5
          obtain ⟨lL, hlL⟩ : ∃ k, mid - x = k := ⟨_, rfl⟩
          obtain ⟨lR, hlR⟩ : ∃ k, y - mid = k := ⟨_, rfl⟩
          obtain ⟨m8, hm8⟩ : ∃ k, m / 8 = k := ⟨_, rfl⟩
          have eL : (mid : Int) - (x : Int) = (lL : Int) := by omega
          have eR : (y : Int) - (mid : Int) = (lR : Int) := by omega
          have e8 : (m : Int) / 8 = (m8 : Int) := by omega
          have HLL := Lib.hid hlL
          have HLR := Lib.hid hlR
          clear hlL hlR hm8
          by_cases hLR : lL < lR
          · have dLR : decide ((lL : Int) < (lR : Int)) = true := decide_eq_true (by omega)
            have dLRn : decide (lL < lR) = true := decide_eq_true hLR
            go_wp2_with fail
            (with_reducible refine (HIH.out (mid - x) (by omega) _ g n c x mid l2 d4 HR6.out k1 (by omega) hn (Nat.le_refl _) hl2 K4.out).mono ?_)
            rintro e w7 ⟨L, rfl, hp7, hs7, hr7, hf7⟩
            obtain ⟨j1, j2⟩ := K6.out L hp7 hs7
            have HPD7 : Hid (PdI a b d (mid + 1) y L) := Lib.hid ⟨j1, fun R r1 r2 => HPD3.out.2 R (j2 R r1 r2).1 (j2 R r1 r2).2⟩
            have HR7 := Lib.hid hr7
            have HF7 := Lib.hid (HF6.out.trans hf7)
            clear hp7 hs7 hr7 hf7 j1 j2 HR6 HF6
            go_wp2_with fail
            go_roundw
            case rel => exact ⟨mid + 1, y, l2, _, ap, L, by go_num, rfl, rfl, rfl, rfl, by omega, hyn, by omega, hl2, HPD7.out, HR7.out, HF7.out⟩
            case measure => simp [intOf] <;> omega
          · have dLR : decide ((lL : Int) < (lR : Int)) = false := decide_eq_false (by omega)
            have dLRn : decide (lL < lR) = false := decide_eq_false hLR
            obtain ⟨mid1, hmid1⟩ : ∃ k, mid + 1 = k := ⟨_, rfl⟩
            have eM : (mid : Int) + 1 = (mid1 : Int) := by omega
            have hih := HIH.out (y - (mid + 1)) (by omega) w6 g n c (mid + 1) y l2 d4 HR6.out (by omega) hyn hn (Nat.le_refl _) hl2 K5.out
            rw [hmid1] at hih
            have K7' := K7.out
            rw [hmid1] at K7'
            have K7'' := Lib.hid K7'
            have hih' := Lib.hid hih
            clear hmid1 hih K7' K7
            go_wp2_with fail
            (with_reducible refine hih'.out.mono ?_)
            rintro e w7 ⟨L, rfl, hp7, hs7, hr7, hf7⟩
            obtain ⟨j1, j2⟩ := K7''.out L hp7 hs7
            have HPD7 : Hid (PdI a b d x mid L) := Lib.hid ⟨j1, fun R r1 r2 => HPD3.out.2 R (j2 R r1 r2).1 (j2 R r1 r2).2⟩
            have HR7 := Lib.hid hr7
            have HF7 := Lib.hid (HF6.out.trans hf7)
            clear hp7 hs7 hr7 hf7 j1 j2 HR6 HF6
            go_wp2_with fail
            go_roundw
            case rel => exact ⟨x, mid, l2, _, ap, L, rfl, rfl, rfl, rfl, rfl, k1, by omega, by omega, hl2, HPD7.out, HR7.out, HF7.out⟩
            case measure => simp [intOf] <;> omega

set_option maxRecDepth 100000 in
theorem sort_any {w : World} {g n c : Nat} {d : Array Int} (h : RowA w g n c d) (hn : n ≤ 100000) :
    Calls Try.prog 23 #[.slice (some ⟨g, 0, none⟩) n c] w fun e w' => ∃ d' : Array Int, e = .returned (.tuple #[]) ∧ PermIn 0 n d d' ∧ SortedIn ltW 0 n d' ∧ RowA w' g n c d' ∧ Fr [g] w w' := by
  have H := Lib.hid h
  have hnI : (n : Int) ≤ 100000 := by omega
  have hlen := fun W => len_any n (by omega) W
  clear h
  go_enter Try.func23, Try.ntmps23
  go_wp2_with fail
  (with_reducible refine (hlen _).mono ?_)
  rintro e w1 ⟨k, rfl, hk, rfl⟩
  have hk2 : k ≤ 64 := by rw [hk]; exact Lib.bitLen_le n 64 (by omega) (by omega)
  clear hk hlen
  have hp := pdq_any n w1 g n c 0 n k d H.out (Nat.zero_le _) (Nat.le_refl _) hn (by omega) (by omega) (.inl rfl)
  rw [show ((0 : Nat) : Int) = 0 from rfl] at hp
  go_wp2_with fail
  (with_reducible refine hp.mono ?_)
  rintro e w2 ⟨d', rfl, h1, h2, h3, h4⟩
  go_wp2
  go_end0
  exact ⟨d', rfl, h1, h2, h3, h4⟩
end Go.Proofs.Ytjejnkkefkompaa
