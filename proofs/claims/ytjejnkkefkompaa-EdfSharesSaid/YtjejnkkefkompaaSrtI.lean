/-
  slices.Sort at uint64: the partition of what is equal.
-/
import Derived.Test.YtjejnkkefkompaaSrtH
namespace Go.Proofs.Ytjejnkkefkompaa
open Go Go.RowKit Go.Sort
set_option linter.unusedSimpArgs false
set_option linter.unusedVariables false

set_option maxRecDepth 100000 in
set_option maxHeartbeats 16000000 in
theorem parteq_any {w : World} {g n c a b pivot : Nat} {d : Array Int} (h : RowA w g n c d) (hp1 : a ≤ pivot) (hp2 : pivot < b) (hb : b ≤ n) (hn : n ≤ 100000) :
    Calls Try.prog 35 #[.slice (some ⟨g, 0, none⟩) n c, .int .i64 a, .int .i64 b, .int .i64 pivot] w fun e w' => ∃ (mid : Nat) (d4 : Array Int), partitionEqual ltW d a b pivot = (mid, d4) ∧ e = .returned (.int .i64 mid) ∧ RowA w' g n c d4 ∧ Fr [g] w w' := by
  have H := Lib.hid h
  have hnI : (n : Int) ≤ 100000 := by omega
  clear h
  obtain ⟨b1, hb1⟩ : ∃ b1, b - 1 = b1 := ⟨_, rfl⟩
  have hbI : (b : Int) - 1 = (b1 : Int) := by omega
  have hbN : b1 + 1 = b := by omega
  have HB1 := Lib.hid hb1
  clear hb1
  have HES := Lib.hid (show partitionEqual ltW d a b pivot = partEqLoop ltW a (a + 1) b1 (swp d a pivot) by unfold partitionEqual; rw [HB1.out])
  have HF := Lib.hid (Fr.refl [g] w)
  go_enter Try.func35, Try.ntmps35
  have c1 := H.out.cell (i := a) (by omega)
  have c2 := H.out.cell (i := pivot) (by omega)
  have f1 := H.out.free a
  have f2 := H.out.free pivot
  have b1' : a < n := by omega
  have b2' : pivot < n := by omega
  have c3 := (Row.put H.out (i := a) d[pivot]!).cell b2'
  have c4 : (w.setCell ⟨g, a, none⟩ (.int .u64 d[pivot]!)).drew.cell? ⟨g, pivot, none⟩ = _ := c3
  go_upto_region 1 with fail
  go_region
  have HR0 := Lib.hid (H.out.swp a pivot).drew
  have HF0 := Lib.hid (fr_two HF.out (List.mem_singleton.2 rfl) a pivot (.int .u64 d[pivot]!) (.int .u64 d[a]!)).drew
  clear c1 c2 c3 c4 f1 f2 b1' b2' H HF
  generalize ((w.setCell ⟨g, a, none⟩ (.int .u64 d[pivot]!)).setCell ⟨g, pivot, none⟩ (.int .u64 d[a]!)).drew = W0 at *
  go_wp2_with fail
  go_loopw [9, 10] (fun u v wr => ∃ (i j : Nat) (dk : Array Int), u = .int .i64 i ∧ v = .int .i64 j ∧ a + 1 ≤ i ∧ i ≤ b ∧ j < b ∧ partEqLoop ltW a i j dk = partEqLoop ltW a (a + 1) b1 (swp d a pivot) ∧ RowA wr g n c dk ∧ Fr [g] w wr) (fun u v _ => (intOf v + 1 - intOf u).toNat)
  case atStart => exact ⟨a + 1, b1, _, by go_num, by go_num, by omega, by omega, by omega, rfl, HR0.out, HF0.out⟩
  case round =>
  obtain ⟨i, j, dk, rfl, rfl, hia, hib, hjb, he, hr, hf⟩ := hrel
  have HLL := Lib.hid he
  have HRL := Lib.hid hr
  have HFL := Lib.hid hf
  clear he hr hf HR0 HF0
  go_wp2_with fail
  go_loopw [9] (fun v wr => ∃ i3 : Nat, v = .int .i64 i3 ∧ i ≤ i3 ∧ (i3 ≤ j + 1 ∨ i3 = i) ∧ scanUp (fun x => !ltW dk[a]! x) dk j i3 = scanUp (fun x => !ltW dk[a]! x) dk j i ∧ RowA wr g n c dk ∧ Fr [g] w wr) (fun v _ => 200000 - (intOf v).toNat)
  case atStart => exact ⟨i, by go_num, Nat.le_refl _, .inr rfl, rfl, HRL.out, HFL.out⟩
  case round =>
  obtain ⟨i3, rfl, hi3, hj3, heT, hrT, hfT⟩ := hrel
  have HE3 := Lib.hid heT
  have HR3 := Lib.hid hrT
  have HF3 := Lib.hid hfT
  clear heT hrT hfT
  obtain ⟨s3, hsT⟩ : ∃ s, (decide (i3 ≤ j) && !ltW dk[a]! dk[i3]!) = s := ⟨_, rfl⟩
  have HS3 := Lib.hid hsT
  clear hsT
  go_upto_region 3 with fail
  go_cut [43] from 29 to 43 (fun v wx => v = .bool s3 ∧ ∃ k, wx = wr.drewN k)
  case first =>
    have hs := HS3.out
    by_cases hg : i3 ≤ j
    · have dg : decide ((i3 : Int) ≤ (j : Int)) = true := decide_eq_true (by omega)
      have c1 := HR3.out.cell (i := i3) (by omega)
      have c2 := HR3.out.cell (i := a) (by omega)
      have b1' : i3 < n := by omega
      have b2' : a < n := by omega
      have hq := less_any dk[a]! dk[i3]!
      rw [decide_eq_true hg, Bool.true_and] at hs
      obtain ⟨lb, hlb⟩ : ∃ lb, ltW dk[a]! dk[i3]! = lb := ⟨_, rfl⟩
      rw [hlb] at hq hs
      clear hlb HS3
      cases lb with
      | true =>
        obtain rfl : s3 = false := by simpa using hs.symm
        go_quiet ((go_at_call 34; exact Calls.quiet_of_same (hq _)))
        (try go_wp2_with fail)
        go_meet
        case rel => exact ⟨rfl, nq, rfl⟩
      | false =>
        obtain rfl : s3 = true := by simpa using hs.symm
        go_quiet ((go_at_call 34; exact Calls.quiet_of_same (hq _)))
        (try go_wp2_with fail)
        go_meet
        case rel => exact ⟨rfl, nq, rfl⟩
    · have dg : decide ((i3 : Int) ≤ (j : Int)) = false := decide_eq_false (by omega)
      rw [decide_eq_false hg, Bool.false_and] at hs
      clear HS3
      obtain rfl : s3 = false := hs.symm
      go_quiet (fail)
      (try go_wp2_with fail)
      go_meet
      case rel => exact ⟨rfl, nq, rfl⟩
  case rest =>
  obtain ⟨rfl, kT, rfl⟩ := hcut
  have HR3' := Lib.hid (HR3.out.drewN kT)
  have HF3' := Lib.hid (HF3.out.drewN kT)
  generalize wr.drewN kT = W3 at *
  cases s3 with
  | true =>
    have hle := up_le HS3.out
    have hgo := up_go (p := fun x => !ltW dk[a]! x) HS3.out
    have HGO := Lib.hid hgo
    clear hgo
    go_wp2_with fail
    go_roundw
    case rel => exact ⟨i3 + 1, by go_num, by omega, .inl (by omega), HGO.out.symm.trans HE3.out, HR3'.out, HF3'.out⟩
    case measure => simp [intOf] <;> omega
  | false =>
    have HX3 := Lib.hid (HE3.out.symm.trans (up_end (p := fun x => !ltW dk[a]! x) HS3.out))
    clear HE3 HS3 HR3 HF3
    go_wp2_with fail
    go_loopw [10] (fun v wr => ∃ i4 : Nat, v = .int .i64 i4 ∧ i4 ≤ j ∧ 1 ≤ i4 + 1 ∧ scanDown (fun x => ltW dk[a]! x) dk i3 i4 = scanDown (fun x => ltW dk[a]! x) dk i3 j ∧ RowA wr g n c dk ∧ Fr [g] w wr) (fun v _ => (intOf v).toNat)
    case atStart => exact ⟨j, by go_num, Nat.le_refl _, by omega, rfl, HR3'.out, HF3'.out⟩
    case round =>
    obtain ⟨i4, rfl, hi4, hj4, heT, hrT, hfT⟩ := hrel
    have HE4 := Lib.hid heT
    have HR4 := Lib.hid hrT
    have HF4 := Lib.hid hfT
    clear heT hrT hfT
    obtain ⟨s4, hsT⟩ : ∃ s, (decide (i3 ≤ i4) && ltW dk[a]! dk[i4]!) = s := ⟨_, rfl⟩
    have HS4 := Lib.hid hsT
    clear hsT
    go_upto_region 5 with fail
    go_cut [59] from 46 to 59 (fun v wx => v = .bool s4 ∧ ∃ k, wx = wr.drewN k)
    case first =>
      have hs := HS4.out
      by_cases hg : i3 ≤ i4
      · have dg : decide ((i3 : Int) ≤ (i4 : Int)) = true := decide_eq_true (by omega)
        have c1 := HR4.out.cell (i := i4) (by omega)
        have c2 := HR4.out.cell (i := a) (by omega)
        have b1' : i4 < n := by omega
        have b2' : a < n := by omega
        have hq := less_any dk[a]! dk[i4]!
        rw [decide_eq_true hg, Bool.true_and] at hs
        obtain ⟨lb, hlb⟩ : ∃ lb, ltW dk[a]! dk[i4]! = lb := ⟨_, rfl⟩
        rw [hlb] at hq hs
        clear hlb HS4
        cases lb with
        | true =>
          obtain rfl : s4 = true := by simpa using hs.symm
          go_quiet ((go_at_call 34; exact Calls.quiet_of_same (hq _)))
          (try go_wp2_with fail)
          go_meet
          case rel => exact ⟨rfl, nq, rfl⟩
        | false =>
          obtain rfl : s4 = false := by simpa using hs.symm
          go_quiet ((go_at_call 34; exact Calls.quiet_of_same (hq _)))
          (try go_wp2_with fail)
          go_meet
          case rel => exact ⟨rfl, nq, rfl⟩
      · have dg : decide ((i3 : Int) ≤ (i4 : Int)) = false := decide_eq_false (by omega)
        rw [decide_eq_false hg, Bool.false_and] at hs
        clear HS4
        obtain rfl : s4 = false := hs.symm
        go_quiet (fail)
        (try go_wp2_with fail)
        go_meet
        case rel => exact ⟨rfl, nq, rfl⟩
    case rest =>
    obtain ⟨rfl, kT, rfl⟩ := hcut
    have HR4' := Lib.hid (HR4.out.drewN kT)
    have HF4' := Lib.hid (HF4.out.drewN kT)
    generalize wr.drewN kT = W4 at *
    cases s4 with
    | true =>
      have hle := up_le HS4.out
      obtain ⟨k4, hk⟩ : ∃ k, i4 = k + 1 := ⟨i4 - 1, by omega⟩
      have HGO := Lib.hid (down_go (p := fun x => ltW dk[a]! x) hk HS4.out)
      have hkI : (i4 : Int) - 1 = (k4 : Int) := by omega
      go_wp2_with fail
      go_roundw
      case rel => exact ⟨k4, by go_num, by omega, by omega, HGO.out.symm.trans HE4.out, HR4'.out, HF4'.out⟩
      case measure => simp [intOf] <;> omega
    | false =>
      have HX4 := Lib.hid (HE4.out.symm.trans (down_end (p := fun x => ltW dk[a]! x) HS4.out))
      clear HE4 HS4 HR4 HF4
      by_cases hgt2 : i3 ≤ i4
      · have dgt2 : decide ((i4 : Int) < (i3 : Int)) = false := decide_eq_false (by omega)
        have dgt2N : decide (i4 < i3) = false := decide_eq_false (by omega)
        have HL4 := Lib.hid (parteq_go HX3.out HX4.out hgt2 hi3 hi4)
        have h41 : 1 ≤ i4 := by omega
        obtain ⟨k4, hk4⟩ : ∃ k, i4 - 1 = k := ⟨_, rfl⟩
        have hk4I : (i4 : Int) - 1 = (k4 : Int) := by omega
        have HK4 := Lib.hid hk4
        clear hk4
        have c1 := HR4'.out.cell (i := i3) (by omega)
        have c2 := HR4'.out.cell (i := i4) (by omega)
        have f1 := HR4'.out.free i3
        have f2 := HR4'.out.free i4
        have b1' : i3 < n := by omega
        have b2' : i4 < n := by omega
        have c3 := (Row.put HR4'.out (i := i3) dk[i4]!).cell b2'
        have c4 : (W4.setCell ⟨g, i3, none⟩ (.int .u64 dk[i4]!)).drew.cell? ⟨g, i4, none⟩ = _ := c3
        go_upto_region 8 with fail
        go_region
        have HR5 := Lib.hid (HR4'.out.swp i3 i4).drew
        have HF5 := Lib.hid (fr_two HF4'.out (List.mem_singleton.2 rfl) i3 i4 (.int .u64 dk[i4]!) (.int .u64 dk[i3]!)).drew
        clear c1 c2 c3 c4 f1 f2 b1' b2' HR4' HF4'
        generalize ((W4.setCell ⟨g, i3, none⟩ (.int .u64 dk[i4]!)).setCell ⟨g, i4, none⟩ (.int .u64 dk[i3]!)).drew = W5 at *
        go_wp2_with fail
        go_roundw
        case rel => exact ⟨i3 + 1, k4, _, by go_num, by go_num, by omega, by omega, by omega, (by rw [← HLL.out, HL4.out, HK4.out]), HR5.out, HF5.out⟩
        case measure => simp [intOf] <;> omega
      · have dgt2 : decide ((i4 : Int) < (i3 : Int)) = true := decide_eq_true (by omega)
        have dgt2N : decide (i4 < i3) = true := decide_eq_true (by omega)
        have HL4 := Lib.hid (parteq_end HX3.out HX4.out (by omega))
        go_wp2_with fail
        go_ret
        exact ⟨i3, _, (HES.out.trans (HLL.out.symm.trans HL4.out)), rfl, HR4'.out, HF4'.out⟩
end Go.Proofs.Ytjejnkkefkompaa
