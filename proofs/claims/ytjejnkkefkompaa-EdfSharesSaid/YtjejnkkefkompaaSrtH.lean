/-
  slices.Sort at uint64: the partitions.
-/
import Derived.Test.YtjejnkkefkompaaSrtC
import Derived.Sort.LotC
import Derived.Deep.Cut
import Derived.Deep.CutRange
namespace Go.Proofs.Ytjejnkkefkompaa
open Go Go.RowKit Go.Sort
set_option linter.unusedSimpArgs false
set_option linter.unusedVariables false

theorem up_le {P : Prop} [Decidable P] {q : Bool} (h : (decide P && q) = true) : P := by
  rw [Bool.and_eq_true] at h
  exact of_decide_eq_true h.1
theorem up_go {p : Int → Bool} {d : Array Int} {j i : Nat} (h : (decide (i ≤ j) && p d[i]!) = true) : scanUp p d j i = scanUp p d j (i + 1) := by rw [scanUp, if_pos h]
theorem up_end {p : Int → Bool} {d : Array Int} {j i : Nat} (h : (decide (i ≤ j) && p d[i]!) = false) : scanUp p d j i = i := by rw [scanUp, if_neg (by rw [h]; decide)]
theorem down_go {p : Int → Bool} {d : Array Int} {i j k : Nat} (e : j = k + 1) (h : (decide (i ≤ j) && p d[j]!) = true) : scanDown p d i j = scanDown p d i k := by
  subst e
  rw [scanDown, if_pos h]
theorem down_end {p : Int → Bool} {d : Array Int} {i j : Nat} (h : (decide (i ≤ j) && p d[j]!) = false) : scanDown p d i j = j := by
  cases j with
  | zero => rfl
  | succ k => rw [scanDown, if_neg (by rw [h]; decide)]
theorem part_end {a i j i2 j2 : Nat} {d : Array Int} (e1 : scanUp (fun x => ltW x d[a]!) d j i = i2) (e2 : scanDown (fun x => !ltW x d[a]!) d i2 j = j2) (h : j2 < i2) : partLoop ltW a i j d = (j2, d) := by
  rw [partLoop]
  simp only [e1, e2]
  rw [if_pos h]
theorem part_go {a i j i2 j2 : Nat} {d : Array Int} (e1 : scanUp (fun x => ltW x d[a]!) d j i = i2) (e2 : scanDown (fun x => !ltW x d[a]!) d i2 j = j2) (h : i2 ≤ j2) (hi : i ≤ i2) (hj : j2 ≤ j) : partLoop ltW a i j d = partLoop ltW a (i2 + 1) (j2 - 1) (swp d i2 j2) := by
  rw [partLoop]
  simp only [e1, e2]
  rw [if_neg (by omega), dif_pos (by omega)]
theorem parteq_end {a i j i2 j2 : Nat} {d : Array Int} (e1 : scanUp (fun x => !ltW d[a]! x) d j i = i2) (e2 : scanDown (fun x => ltW d[a]! x) d i2 j = j2) (h : j2 < i2) : partEqLoop ltW a i j d = (i2, d) := by
  rw [partEqLoop]
  simp only [e1, e2]
  rw [if_pos h]
theorem parteq_go {a i j i2 j2 : Nat} {d : Array Int} (e1 : scanUp (fun x => !ltW d[a]! x) d j i = i2) (e2 : scanDown (fun x => ltW d[a]! x) d i2 j = j2) (h : i2 ≤ j2) (hi : i ≤ i2) (hj : j2 ≤ j) : partEqLoop ltW a i j d = partEqLoop ltW a (i2 + 1) (j2 - 1) (swp d i2 j2) := by
  rw [partEqLoop]
  simp only [e1, e2]
  rw [if_neg (by omega), dif_pos (by omega)]
theorem partition_one {a b1 b p i1 j2 : Nat} {d D1 : Array Int} (hb : b - 1 = b1) (hd : swp d a p = D1) (e1 : scanUp (fun x => ltW x D1[a]!) D1 b1 (a + 1) = i1) (e2 : scanDown (fun x => !ltW x D1[a]!) D1 i1 b1 = j2) (h : j2 < i1) : partition ltW d a b p = (j2, true, swp D1 j2 a) := by
  unfold partition
  simp only [hb, hd, e1, e2]
  rw [if_pos h]
theorem partition_two {a b1 b p i1 j2 : Nat} {d D1 : Array Int} (hb : b - 1 = b1) (hd : swp d a p = D1) (e1 : scanUp (fun x => ltW x D1[a]!) D1 b1 (a + 1) = i1) (e2 : scanDown (fun x => !ltW x D1[a]!) D1 i1 b1 = j2) (h : i1 ≤ j2) {m : Nat} {D3 : Array Int} (hl : partLoop ltW a (i1 + 1) (j2 - 1) (swp D1 i1 j2) = (m, D3)) : partition ltW d a b p = (m, false, swp D3 m a) := by
  unfold partition
  simp only [hb, hd, e1, e2]
  rw [if_neg (by omega), hl]
set_option maxRecDepth 100000 in
set_option maxHeartbeats 16000000 in
theorem partition_any {w : World} {g n c a b pivot : Nat} {d : Array Int} (h : RowA w g n c d) (hp1 : a ≤ pivot) (hp2 : pivot < b) (hb : b ≤ n) (hn : n ≤ 100000) :
    Calls Try.prog 36 #[.slice (some ⟨g, 0, none⟩) n c, .int .i64 a, .int .i64 b, .int .i64 pivot] w fun e w' => ∃ (mid : Nat) (ap : Bool) (d4 : Array Int), partition ltW d a b pivot = (mid, ap, d4) ∧ e = .returned (.tuple #[.int .i64 mid, .bool ap]) ∧ RowA w' g n c d4 ∧ Fr [g] w w' := by
  have H := Lib.hid h
  have hnI : (n : Int) ≤ 100000 := by omega
  clear h
  obtain ⟨b1, hb1⟩ : ∃ b1, b - 1 = b1 := ⟨_, rfl⟩
  have hbI : (b : Int) - 1 = (b1 : Int) := by omega
  have hbN : b1 + 1 = b := by omega
  have HB1 := Lib.hid hb1
  clear hb1
  have HF := Lib.hid (Fr.refl [g] w)
  go_enter Try.func36, Try.ntmps36
  have c1 := H.out.cell (i := a) (by omega)
  have c2 := H.out.cell (i := pivot) (by omega)
  have f1 := H.out.free a
  have f2 := H.out.free pivot
  have b1' : a < n := by omega
  have b2' : pivot < n := by omega
  have c3 := (Row.put H.out (i := a) d[pivot]!).cell b2'
  have c4 : (w.setCell ⟨g, a, none⟩ (.int .u64 d[pivot]!)).drew.cell? ⟨g, pivot, none⟩ = _ := c3
  go_upto_region 1 with fail
  go_region
  have HR0 := Lib.hid (H.out.swp a pivot).drew
  have HF0 := Lib.hid (fr_two HF.out (List.mem_singleton.2 rfl) a pivot (.int .u64 d[pivot]!) (.int .u64 d[a]!)).drew
  clear c1 c2 c3 c4 f1 f2 b1' b2' H HF
  generalize ((w.setCell ⟨g, a, none⟩ (.int .u64 d[pivot]!)).setCell ⟨g, pivot, none⟩ (.int .u64 d[a]!)).drew = W0 at *
  obtain ⟨D1, hD1⟩ : ∃ D1, swp d a pivot = D1 := ⟨_, rfl⟩
  have HD1 := Lib.hid hD1
  rw [hD1] at HR0
  clear hD1
  go_wp2_with fail
  go_loopw [10] (fun v wr => ∃ i1 : Nat, v = .int .i64 i1 ∧ (a + 1) ≤ i1 ∧ (i1 ≤ b1 + 1 ∨ i1 = (a + 1)) ∧ scanUp (fun x => ltW x D1[a]!) D1 b1 i1 = scanUp (fun x => ltW x D1[a]!) D1 b1 (a + 1) ∧ RowA wr g n c D1 ∧ Fr [g] w wr) (fun v _ => 200000 - (intOf v).toNat)
  case atStart => exact ⟨(a + 1), by go_num, Nat.le_refl _, .inr rfl, rfl, HR0.out, HF0.out⟩
  case round =>
  obtain ⟨i1, rfl, hi1, hj1, heT, hrT, hfT⟩ := hrel
  have HE1 := Lib.hid heT
  have HR1 := Lib.hid hrT
  have HF1 := Lib.hid hfT
  clear heT hrT hfT
  obtain ⟨s1, hsT⟩ : ∃ s, (decide (i1 ≤ b1) && ltW D1[i1]! D1[a]!) = s := ⟨_, rfl⟩
  have HS1 := Lib.hid hsT
  clear hsT
  go_upto_region 3 with fail
  go_cut [43] from 30 to 43 (fun v wx => v = .bool s1 ∧ ∃ k, wx = wr.drewN k)
  case first =>
    have hs := HS1.out
    by_cases hg : i1 ≤ b1
    · have dg : decide ((i1 : Int) ≤ (b1 : Int)) = true := decide_eq_true (by omega)
      have c1 := HR1.out.cell (i := i1) (by omega)
      have c2 := HR1.out.cell (i := a) (by omega)
      have b1' : i1 < n := by omega
      have b2' : a < n := by omega
      have hq := less_any D1[i1]! D1[a]!
      rw [decide_eq_true hg, Bool.true_and] at hs
      obtain ⟨lb, hlb⟩ : ∃ lb, ltW D1[i1]! D1[a]! = lb := ⟨_, rfl⟩
      rw [hlb] at hq hs
      clear hlb HS1
      cases lb with
      | true =>
        obtain rfl : s1 = true := by simpa using hs.symm
        go_quiet ((go_at_call 34; exact Calls.quiet_of_same (hq _)))
        (try go_wp2_with fail)
        go_meet
        case rel => exact ⟨rfl, nq, rfl⟩
      | false =>
        obtain rfl : s1 = false := by simpa using hs.symm
        go_quiet ((go_at_call 34; exact Calls.quiet_of_same (hq _)))
        (try go_wp2_with fail)
        go_meet
        case rel => exact ⟨rfl, nq, rfl⟩
    · have dg : decide ((i1 : Int) ≤ (b1 : Int)) = false := decide_eq_false (by omega)
      rw [decide_eq_false hg, Bool.false_and] at hs
      clear HS1
      obtain rfl : s1 = false := hs.symm
      go_quiet (fail)
      (try go_wp2_with fail)
      go_meet
      case rel => exact ⟨rfl, nq, rfl⟩
  case rest =>
  obtain ⟨rfl, kT, rfl⟩ := hcut
  have HR1' := Lib.hid (HR1.out.drewN kT)
  have HF1' := Lib.hid (HF1.out.drewN kT)
  generalize wr.drewN kT = W1 at *
  cases s1 with
  | true =>
    have hle := up_le HS1.out
    have hgo := up_go (p := fun x => ltW x D1[a]!) HS1.out
    have HGO := Lib.hid hgo
    clear hgo
    go_wp2_with fail
    go_roundw
    case rel => exact ⟨i1 + 1, by go_num, by omega, .inl (by omega), HGO.out.symm.trans HE1.out, HR1'.out, HF1'.out⟩
    case measure => simp [intOf] <;> omega
  | false =>
    have HX1 := Lib.hid (HE1.out.symm.trans (up_end (p := fun x => ltW x D1[a]!) HS1.out))
    clear HE1 HS1 HR1 HF1
    go_wp2_with fail
    go_loopw [11] (fun v wr => ∃ i2 : Nat, v = .int .i64 i2 ∧ i2 ≤ b1 ∧ 1 ≤ i2 + 1 ∧ scanDown (fun x => !ltW x D1[a]!) D1 i1 i2 = scanDown (fun x => !ltW x D1[a]!) D1 i1 b1 ∧ RowA wr g n c D1 ∧ Fr [g] w wr) (fun v _ => (intOf v).toNat)
    case atStart => exact ⟨b1, by go_num, Nat.le_refl _, by omega, rfl, HR1'.out, HF1'.out⟩
    case round =>
    obtain ⟨i2, rfl, hi2, hj2, heT, hrT, hfT⟩ := hrel
    have HE2 := Lib.hid heT
    have HR2 := Lib.hid hrT
    have HF2 := Lib.hid hfT
    clear heT hrT hfT
    obtain ⟨s2, hsT⟩ : ∃ s, (decide (i1 ≤ i2) && !ltW D1[i2]! D1[a]!) = s := ⟨_, rfl⟩
    have HS2 := Lib.hid hsT
    clear hsT
    go_upto_region 5 with fail
    go_cut [60] from 46 to 60 (fun v wx => v = .bool s2 ∧ ∃ k, wx = wr.drewN k)
    case first =>
      have hs := HS2.out
      by_cases hg : i1 ≤ i2
      · have dg : decide ((i1 : Int) ≤ (i2 : Int)) = true := decide_eq_true (by omega)
        have c1 := HR2.out.cell (i := i2) (by omega)
        have c2 := HR2.out.cell (i := a) (by omega)
        have b1' : i2 < n := by omega
        have b2' : a < n := by omega
        have hq := less_any D1[i2]! D1[a]!
        rw [decide_eq_true hg, Bool.true_and] at hs
        obtain ⟨lb, hlb⟩ : ∃ lb, ltW D1[i2]! D1[a]! = lb := ⟨_, rfl⟩
        rw [hlb] at hq hs
        clear hlb HS2
        cases lb with
        | true =>
          obtain rfl : s2 = false := by simpa using hs.symm
          go_quiet ((go_at_call 34; exact Calls.quiet_of_same (hq _)))
          (try go_wp2_with fail)
          go_meet
          case rel => exact ⟨rfl, nq, rfl⟩
        | false =>
          obtain rfl : s2 = true := by simpa using hs.symm
          go_quiet ((go_at_call 34; exact Calls.quiet_of_same (hq _)))
          (try go_wp2_with fail)
          go_meet
          case rel => exact ⟨rfl, nq, rfl⟩
      · have dg : decide ((i1 : Int) ≤ (i2 : Int)) = false := decide_eq_false (by omega)
        rw [decide_eq_false hg, Bool.false_and] at hs
        clear HS2
        obtain rfl : s2 = false := hs.symm
        go_quiet (fail)
        (try go_wp2_with fail)
        go_meet
        case rel => exact ⟨rfl, nq, rfl⟩
    case rest =>
    obtain ⟨rfl, kT, rfl⟩ := hcut
    have HR2' := Lib.hid (HR2.out.drewN kT)
    have HF2' := Lib.hid (HF2.out.drewN kT)
    generalize wr.drewN kT = W2 at *
    cases s2 with
    | true =>
      have hle := up_le HS2.out
      obtain ⟨k2, hk⟩ : ∃ k, i2 = k + 1 := ⟨i2 - 1, by omega⟩
      have HGO := Lib.hid (down_go (p := fun x => !ltW x D1[a]!) hk HS2.out)
      have hkI : (i2 : Int) - 1 = (k2 : Int) := by omega
      go_wp2_with fail
      go_roundw
      case rel => exact ⟨k2, by go_num, by omega, by omega, HGO.out.symm.trans HE2.out, HR2'.out, HF2'.out⟩
      case measure => simp [intOf] <;> omega
    | false =>
      have HX2 := Lib.hid (HE2.out.symm.trans (down_end (p := fun x => !ltW x D1[a]!) HS2.out))
      clear HE2 HS2 HR2 HF2
      by_cases hgt : i1 ≤ i2
      · have dgt : decide ((i2 : Int) < (i1 : Int)) = false := decide_eq_false (by omega)
        have dgtN : decide (i2 < i1) = false := decide_eq_false (by omega)
        obtain ⟨k2, hk2⟩ : ∃ k, i2 - 1 = k := ⟨_, rfl⟩
        have hk2I : (i2 : Int) - 1 = (k2 : Int) := by omega
        have h21 : 1 ≤ i2 := by omega
        have HK2 := Lib.hid hk2
        clear hk2
        have c1 := HR2'.out.cell (i := i1) (by omega)
        have c2 := HR2'.out.cell (i := i2) (by omega)
        have f1 := HR2'.out.free i1
        have f2 := HR2'.out.free i2
        have b1' : i1 < n := by omega
        have b2' : i2 < n := by omega
        have c3 := (Row.put HR2'.out (i := i1) D1[i2]!).cell b2'
        have c4 : (W2.setCell ⟨g, i1, none⟩ (.int .u64 D1[i2]!)).drew.cell? ⟨g, i2, none⟩ = _ := c3
        go_upto_region 10 with fail
        go_region
        have HR6 := Lib.hid (HR2'.out.swp i1 i2).drew
        have HF6 := Lib.hid (fr_two HF2'.out (List.mem_singleton.2 rfl) i1 i2 (.int .u64 D1[i2]!) (.int .u64 D1[i1]!)).drew
        clear c1 c2 c3 c4 f1 f2 b1' b2' HR2' HF2'
        generalize ((W2.setCell ⟨g, i1, none⟩ (.int .u64 D1[i2]!)).setCell ⟨g, i2, none⟩ (.int .u64 D1[i1]!)).drew = W3 at *
        go_wp2_with fail
        go_loopw [10, 11] (fun u v wr => ∃ (i j : Nat) (dk : Array Int), u = .int .i64 i ∧ v = .int .i64 j ∧ a + 1 ≤ i ∧ i ≤ b ∧ j < b ∧ partLoop ltW a i j dk = partLoop ltW a (i1 + 1) (i2 - 1) (swp D1 i1 i2) ∧ RowA wr g n c dk ∧ Fr [g] w wr) (fun u v _ => (intOf v + 1 - intOf u).toNat)
        case atStart => exact ⟨i1 + 1, k2, _, by go_num, by go_num, by omega, by omega, by omega, (by rw [HK2.out]), HR6.out, HF6.out⟩
        case round =>
        obtain ⟨i, j, dk, rfl, rfl, hia, hib, hjb, he, hr, hf⟩ := hrel
        have HLL := Lib.hid he
        have HRL := Lib.hid hr
        have HFL := Lib.hid hf
        clear he hr hf HR6 HF6
        go_wp2_with fail
        go_loopw [10] (fun v wr => ∃ i3 : Nat, v = .int .i64 i3 ∧ i ≤ i3 ∧ (i3 ≤ j + 1 ∨ i3 = i) ∧ scanUp (fun x => ltW x dk[a]!) dk j i3 = scanUp (fun x => ltW x dk[a]!) dk j i ∧ RowA wr g n c dk ∧ Fr [g] w wr) (fun v _ => 200000 - (intOf v).toNat)
        case atStart => exact ⟨i, by go_num, Nat.le_refl _, .inr rfl, rfl, HRL.out, HFL.out⟩
        case round =>
        obtain ⟨i3, rfl, hi3, hj3, heT, hrT, hfT⟩ := hrel
        have HE3 := Lib.hid heT
        have HR3 := Lib.hid hrT
        have HF3 := Lib.hid hfT
        clear heT hrT hfT
        obtain ⟨s3, hsT⟩ : ∃ s, (decide (i3 ≤ j) && ltW dk[i3]! dk[a]!) = s := ⟨_, rfl⟩
        have HS3 := Lib.hid hsT
        clear hsT
        go_upto_region 13 with fail
        go_cut [112] from 99 to 112 (fun v wx => v = .bool s3 ∧ ∃ k, wx = wr.drewN k)
        case first =>
          have hs := HS3.out
          by_cases hg : i3 ≤ j
          · have dg : decide ((i3 : Int) ≤ (j : Int)) = true := decide_eq_true (by omega)
            have c1 := HR3.out.cell (i := i3) (by omega)
            have c2 := HR3.out.cell (i := a) (by omega)
            have b1' : i3 < n := by omega
            have b2' : a < n := by omega
            have hq := less_any dk[i3]! dk[a]!
            rw [decide_eq_true hg, Bool.true_and] at hs
            obtain ⟨lb, hlb⟩ : ∃ lb, ltW dk[i3]! dk[a]! = lb := ⟨_, rfl⟩
            rw [hlb] at hq hs
            clear hlb HS3
            cases lb with
            | true =>
              obtain rfl : s3 = true := by simpa using hs.symm
              go_quiet ((go_at_call 34; exact Calls.quiet_of_same (hq _)))
              (try go_wp2_with fail)
              go_meet
              case rel => exact ⟨rfl, nq, rfl⟩
            | false =>
              obtain rfl : s3 = false := by simpa using hs.symm
              go_quiet ((go_at_call 34; exact Calls.quiet_of_same (hq _)))
              (try go_wp2_with fail)
              go_meet
              case rel => exact ⟨rfl, nq, rfl⟩
          · have dg : decide ((i3 : Int) ≤ (j : Int)) = false := decide_eq_false (by omega)
            rw [decide_eq_false hg, Bool.false_and] at hs
            clear HS3
            obtain rfl : s3 = false := hs.symm
            go_quiet (fail)
            (try go_wp2_with fail)
            go_meet
            case rel => exact ⟨rfl, nq, rfl⟩
        case rest =>
        obtain ⟨rfl, kT, rfl⟩ := hcut
        have HR3' := Lib.hid (HR3.out.drewN kT)
        have HF3' := Lib.hid (HF3.out.drewN kT)
        generalize wr.drewN kT = W3 at *
        cases s3 with
        | true =>
          have hle := up_le HS3.out
          have hgo := up_go (p := fun x => ltW x dk[a]!) HS3.out
          have HGO := Lib.hid hgo
          clear hgo
          go_wp2_with fail
          go_roundw
          case rel => exact ⟨i3 + 1, by go_num, by omega, .inl (by omega), HGO.out.symm.trans HE3.out, HR3'.out, HF3'.out⟩
          case measure => simp [intOf] <;> omega
        | false =>
          have HX3 := Lib.hid (HE3.out.symm.trans (up_end (p := fun x => ltW x dk[a]!) HS3.out))
          clear HE3 HS3 HR3 HF3
          go_wp2_with fail
          go_loopw [11] (fun v wr => ∃ i4 : Nat, v = .int .i64 i4 ∧ i4 ≤ j ∧ 1 ≤ i4 + 1 ∧ scanDown (fun x => !ltW x dk[a]!) dk i3 i4 = scanDown (fun x => !ltW x dk[a]!) dk i3 j ∧ RowA wr g n c dk ∧ Fr [g] w wr) (fun v _ => (intOf v).toNat)
          case atStart => exact ⟨j, by go_num, Nat.le_refl _, by omega, rfl, HR3'.out, HF3'.out⟩
          case round =>
          obtain ⟨i4, rfl, hi4, hj4, heT, hrT, hfT⟩ := hrel
          have HE4 := Lib.hid heT
          have HR4 := Lib.hid hrT
          have HF4 := Lib.hid hfT
          clear heT hrT hfT
          obtain ⟨s4, hsT⟩ : ∃ s, (decide (i3 ≤ i4) && !ltW dk[i4]! dk[a]!) = s := ⟨_, rfl⟩
          have HS4 := Lib.hid hsT
          clear hsT
          go_upto_region 15 with fail
          go_cut [129] from 115 to 129 (fun v wx => v = .bool s4 ∧ ∃ k, wx = wr.drewN k)
          case first =>
            have hs := HS4.out
            by_cases hg : i3 ≤ i4
            · have dg : decide ((i3 : Int) ≤ (i4 : Int)) = true := decide_eq_true (by omega)
              have c1 := HR4.out.cell (i := i4) (by omega)
              have c2 := HR4.out.cell (i := a) (by omega)
              have b1' : i4 < n := by omega
              have b2' : a < n := by omega
              have hq := less_any dk[i4]! dk[a]!
              rw [decide_eq_true hg, Bool.true_and] at hs
              obtain ⟨lb, hlb⟩ : ∃ lb, ltW dk[i4]! dk[a]! = lb := ⟨_, rfl⟩
              rw [hlb] at hq hs
              clear hlb HS4
              cases lb with
              | true =>
                obtain rfl : s4 = false := by simpa using hs.symm
                go_quiet ((go_at_call 34; exact Calls.quiet_of_same (hq _)))
                (try go_wp2_with fail)
                go_meet
                case rel => exact ⟨rfl, nq, rfl⟩
              | false =>
                obtain rfl : s4 = true := by simpa using hs.symm
                go_quiet ((go_at_call 34; exact Calls.quiet_of_same (hq _)))
                (try go_wp2_with fail)
                go_meet
                case rel => exact ⟨rfl, nq, rfl⟩
            · have dg : decide ((i3 : Int) ≤ (i4 : Int)) = false := decide_eq_false (by omega)
              rw [decide_eq_false hg, Bool.false_and] at hs
              clear HS4
              obtain rfl : s4 = false := hs.symm
              go_quiet (fail)
              (try go_wp2_with fail)
              go_meet
              case rel => exact ⟨rfl, nq, rfl⟩
          case rest =>
          obtain ⟨rfl, kT, rfl⟩ := hcut
          have HR4' := Lib.hid (HR4.out.drewN kT)
          have HF4' := Lib.hid (HF4.out.drewN kT)
          generalize wr.drewN kT = W4 at *
          cases s4 with
          | true =>
            have hle := up_le HS4.out
            obtain ⟨k4, hk⟩ : ∃ k, i4 = k + 1 := ⟨i4 - 1, by omega⟩
            have HGO := Lib.hid (down_go (p := fun x => !ltW x dk[a]!) hk HS4.out)
            have hkI : (i4 : Int) - 1 = (k4 : Int) := by omega
            go_wp2_with fail
            go_roundw
            case rel => exact ⟨k4, by go_num, by omega, by omega, HGO.out.symm.trans HE4.out, HR4'.out, HF4'.out⟩
            case measure => simp [intOf] <;> omega
          | false =>
            have HX4 := Lib.hid (HE4.out.symm.trans (down_end (p := fun x => !ltW x dk[a]!) HS4.out))
            clear HE4 HS4 HR4 HF4
            by_cases hgt2 : i3 ≤ i4
            · have dgt2 : decide ((i4 : Int) < (i3 : Int)) = false := decide_eq_false (by omega)
              have dgt2N : decide (i4 < i3) = false := decide_eq_false (by omega)
              have HL4 := Lib.hid (part_go HX3.out HX4.out hgt2 hi3 hi4)
              have h41 : 1 ≤ i4 := by omega
              obtain ⟨k4, hk4⟩ : ∃ k, i4 - 1 = k := ⟨_, rfl⟩
              have hk4I : (i4 : Int) - 1 = (k4 : Int) := by omega
              have HK4 := Lib.hid hk4
              clear hk4
              have c1 := HR4'.out.cell (i := i3) (by omega)
              have c2 := HR4'.out.cell (i := i4) (by omega)
              have f1 := HR4'.out.free i3
              have f2 := HR4'.out.free i4
              have b1' : i3 < n := by omega
              have b2' : i4 < n := by omega
              have c3 := (Row.put HR4'.out (i := i3) dk[i4]!).cell b2'
              have c4 : (W4.setCell ⟨g, i3, none⟩ (.int .u64 dk[i4]!)).drew.cell? ⟨g, i4, none⟩ = _ := c3
              go_upto_region 18 with fail
              go_region
              have HR5 := Lib.hid (HR4'.out.swp i3 i4).drew
              have HF5 := Lib.hid (fr_two HF4'.out (List.mem_singleton.2 rfl) i3 i4 (.int .u64 dk[i4]!) (.int .u64 dk[i3]!)).drew
              clear c1 c2 c3 c4 f1 f2 b1' b2' HR4' HF4'
              generalize ((W4.setCell ⟨g, i3, none⟩ (.int .u64 dk[i4]!)).setCell ⟨g, i4, none⟩ (.int .u64 dk[i3]!)).drew = W5 at *
              go_wp2_with fail
              go_roundw
              case rel => exact ⟨i3 + 1, k4, _, by go_num, by go_num, by omega, by omega, by omega, (by rw [← HLL.out, HL4.out, HK4.out]), HR5.out, HF5.out⟩
              case measure => simp [intOf] <;> omega
            · have dgt2 : decide ((i4 : Int) < (i3 : Int)) = true := decide_eq_true (by omega)
              have dgt2N : decide (i4 < i3) = true := decide_eq_true (by omega)
              have HL4 := Lib.hid (part_end HX3.out HX4.out (by omega))
              have HRZ' := HR4'
              have HFZ' := HF4'
              have c1 := HRZ'.out.cell (i := i4) (by omega)
              have c2 := HRZ'.out.cell (i := a) (by omega)
              have f1 := HRZ'.out.free i4
              have f2 := HRZ'.out.free a
              have b1' : i4 < n := by omega
              have b2' : a < n := by omega
              have c3 := (Row.put HRZ'.out (i := i4) dk[a]!).cell b2'
              have c4 : (W4.setCell ⟨g, i4, none⟩ (.int .u64 dk[a]!)).drew.cell? ⟨g, a, none⟩ = _ := c3
              go_upto_region 21 with fail
              go_region
              have HR5 := Lib.hid (HRZ'.out.swp i4 a).drew
              have HF5 := Lib.hid (fr_two HFZ'.out (List.mem_singleton.2 rfl) i4 a (.int .u64 dk[a]!) (.int .u64 dk[i4]!)).drew
              clear c1 c2 c3 c4 f1 f2 b1' b2' HRZ' HFZ'
              generalize ((W4.setCell ⟨g, i4, none⟩ (.int .u64 dk[a]!)).setCell ⟨g, a, none⟩ (.int .u64 dk[i4]!)).drew = W5 at *
              go_wp2_with fail
              go_ret2
              exact ⟨i4, false, _, partition_two HB1.out HD1.out HX1.out HX2.out hgt (HLL.out.symm.trans HL4.out), rfl, HR5.out, HF5.out⟩
      · have dgt : decide ((i2 : Int) < (i1 : Int)) = true := decide_eq_true (by omega)
        have dgtN : decide (i2 < i1) = true := decide_eq_true (by omega)
        have c1 := HR2'.out.cell (i := i2) (by omega)
        have c2 := HR2'.out.cell (i := a) (by omega)
        have f1 := HR2'.out.free i2
        have f2 := HR2'.out.free a
        have b1' : i2 < n := by omega
        have b2' : a < n := by omega
        have c3 := (Row.put HR2'.out (i := i2) D1[a]!).cell b2'
        have c4 : (W2.setCell ⟨g, i2, none⟩ (.int .u64 D1[a]!)).drew.cell? ⟨g, a, none⟩ = _ := c3
        go_upto_region 8 with fail
        go_region
        have HR5 := Lib.hid (HR2'.out.swp i2 a).drew
        have HF5 := Lib.hid (fr_two HF2'.out (List.mem_singleton.2 rfl) i2 a (.int .u64 D1[a]!) (.int .u64 D1[i2]!)).drew
        clear c1 c2 c3 c4 f1 f2 b1' b2' HR2' HF2'
        generalize ((W2.setCell ⟨g, i2, none⟩ (.int .u64 D1[a]!)).setCell ⟨g, a, none⟩ (.int .u64 D1[i2]!)).drew = W3 at *
        go_wp2_with fail
        go_ret2
        exact ⟨i2, true, _, partition_one HB1.out HD1.out HX1.out HX2.out (by omega), rfl, HR5.out, HF5.out⟩
end Go.Proofs.Ytjejnkkefkompaa
