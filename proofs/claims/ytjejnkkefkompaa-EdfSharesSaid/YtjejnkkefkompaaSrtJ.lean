/-
  slices.Sort at uint64: the sort that is given up.
-/
import Derived.Test.YtjejnkkefkompaaSrtH
namespace Go.Proofs.Ytjejnkkefkompaa
open Go Go.RowKit Go.Sort
set_option linter.unusedSimpArgs false
set_option linter.unusedVariables false

theorem ss_go {d : Array Int} {b i e : Nat} (he : i - 1 = e) (h : (decide (i < b) && !ltW d[i]! d[e]!) = true) : scanSorted ltW d b i = scanSorted ltW d b (i + 1) := by
  subst he
  rw [scanSorted, if_pos h]
theorem ss_end {d : Array Int} {b i e : Nat} (he : i - 1 = e) (h : (decide (i < b) && !ltW d[i]! d[e]!) = false) : scanSorted ltW d b i = i := by
  subst he
  rw [scanSorted, if_neg (by rw [h]; decide)]
theorem pi_done {d : Array Int} {a b s i i2 : Nat} (e : scanSorted ltW d b i = i2) (h : i2 = b) : partialIns ltW a b (s + 1) i d = (d, true) := by
  rw [partialIns]
  simp only [e]
  rw [if_pos h]
theorem pi_short {d : Array Int} {a b s i i2 : Nat} (e : scanSorted ltW d b i = i2) (h : i2 ≠ b) (h2 : b - a < 50) : partialIns ltW a b (s + 1) i d = (d, false) := by
  rw [partialIns]
  simp only [e]
  rw [if_neg h, if_pos h2]
/-- The two shifts. -/
def shDn (a i : Nat) (d : Array Int) : Array Int := if i - a ≥ 2 then shiftDown ltW (i - 1) d else d
def shUp (b i : Nat) (d : Array Int) : Array Int := if b - i ≥ 2 then shiftUp ltW b (i + 1) d else d
theorem pi_go {d : Array Int} {a b s i i2 : Nat} (e : scanSorted ltW d b i = i2) (h : i2 ≠ b) (h2 : ¬ b - a < 50) : partialIns ltW a b (s + 1) i d = partialIns ltW a b s i2 (shUp b i2 (shDn a i2 (swp d i2 (i2 - 1)))) := by
  rw [partialIns]
  simp only [e]
  rw [if_neg h, if_neg h2]
  rfl
theorem sd_one {d : Array Int} {j e : Nat} {lb : Bool} (h : j - 1 = e) (hj : 1 ≤ j) (hl : ltW d[j]! d[e]! = lb) : shiftDown ltW j d = if lb = true then shiftDown ltW e (swp d j e) else d := by
  obtain ⟨k, rfl⟩ : ∃ k, j = k + 1 := ⟨j - 1, by omega⟩
  obtain rfl : k = e := by omega
  rw [shiftDown, hl]
  cases lb <;> rfl
theorem su_one {d : Array Int} {b j e : Nat} {lb : Bool} (h : j - 1 = e) (hj : j < b) (hl : ltW d[j]! d[e]! = lb) : shiftUp ltW b j d = if lb = true then shiftUp ltW b (j + 1) (swp d j e) else d := by
  subst h
  rw [shiftUp, if_pos hj, hl]
  cases lb <;> rfl
theorem sd_end {d : Array Int} {j : Nat} (hj : j < 1) : shiftDown ltW j d = d := by
  obtain rfl : j = 0 := by omega
  rfl
theorem su_end {d : Array Int} {b j : Nat} (hj : b ≤ j) : shiftUp ltW b j d = d := by rw [shiftUp, if_neg (by omega)]
set_option maxRecDepth 100000 in
set_option maxHeartbeats 16000000 in
theorem partial_any {w : World} {g n c a b : Nat} {d : Array Int} (h : RowA w g n c d) (hab : a < b) (hb : b ≤ n) (hn : n ≤ 100000) :
    Calls Try.prog 33 #[.slice (some ⟨g, 0, none⟩) n c, .int .i64 a, .int .i64 b] w fun e w' => ∃ (d4 : Array Int) (done : Bool), partialInsertionSort ltW d a b = (d4, done) ∧ e = .returned (.bool done) ∧ RowA w' g n c d4 ∧ Fr [g] w w' := by
  have H := Lib.hid h
  have hnI : (n : Int) ≤ 100000 := by omega
  clear h
  have HF := Lib.hid (Fr.refl [g] w)
  go_enter Try.func33, Try.ntmps33
  go_wp2_with fail
  go_loopw [7, 8] (fun u v wr => ∃ (i k : Nat) (dk : Array Int), u = .int .i64 i ∧ v = .int .i64 k ∧ a + 1 ≤ i ∧ i ≤ b ∧ k ≤ 5 ∧ partialIns ltW a b (5 - k) i dk = partialInsertionSort ltW d a b ∧ RowA wr g n c dk ∧ Fr [g] w wr) (fun u v _ => 10 - (intOf v).toNat)
  case atStart => exact ⟨a + 1, 0, d, by go_num, rfl, by omega, by omega, by omega, rfl, H.out, HF.out⟩
  case round =>
  obtain ⟨i, k, dk, rfl, rfl, hia, hib0, hk5, he, hr, hf⟩ := hrel
  have HRL := Lib.hid hr
  have HFL := Lib.hid hf
  by_cases hk : k < 5
  · have dk5 : decide ((k : Int) < 5) = true := decide_eq_true (by omega)
    rw [show 5 - k = (4 - k) + 1 by omega] at he
    have HLL := Lib.hid he
    clear he hr hf
    go_wp2_with fail
    go_loopw [7] (fun v wr => ∃ i2 : Nat, v = .int .i64 i2 ∧ i ≤ i2 ∧ i2 ≤ b ∧ scanSorted ltW dk b i2 = scanSorted ltW dk b i ∧ RowA wr g n c dk ∧ Fr [g] w wr) (fun v _ => 200000 - (intOf v).toNat)
    case atStart => exact ⟨i, by go_num, Nat.le_refl _, hib0, rfl, HRL.out, HFL.out⟩
    case round =>
    obtain ⟨i2, rfl, hi2, hj2, heT, hrT, hfT⟩ := hrel
    have HEX := Lib.hid heT
    have HR2 := Lib.hid hrT
    have HF2 := Lib.hid hfT
    clear heT hrT hfT
    obtain ⟨e2, he2⟩ : ∃ e, i2 - 1 = e := ⟨_, rfl⟩
    have he2I : (i2 : Int) - 1 = (e2 : Int) := by omega
    have he2n : e2 < n := by omega
    have hi20 : 1 ≤ i2 := by omega
    obtain ⟨s2, hsT⟩ : ∃ s, (decide (i2 < b) && !ltW dk[i2]! dk[e2]!) = s := ⟨_, rfl⟩
    have HS2 := Lib.hid hsT
    clear hsT
    go_upto_region 5 with fail
    go_cut [32] from 17 to 32 (fun v wx => v = .bool s2 ∧ ∃ k, wx = wr.drewN k)
    case first =>
      have hs := HS2.out
      by_cases hg : i2 < b
      · have dg : decide ((i2 : Int) < (b : Int)) = true := decide_eq_true (by omega)
        have c1 := HR2.out.cell (i := i2) (by omega)
        have c2 := HR2.out.cell (i := e2) (by omega)
        have b1' : i2 < n := by omega
        have hq := less_any dk[i2]! dk[e2]!
        rw [decide_eq_true hg, Bool.true_and] at hs
        obtain ⟨lb, hlb⟩ : ∃ lb, ltW dk[i2]! dk[e2]! = lb := ⟨_, rfl⟩
        rw [hlb] at hq hs
        clear hlb HS2 he2
        cases lb with
        | true =>
          obtain rfl : s2 = false := by simpa using hs.symm
          go_quiet ((go_at_call 34; exact Calls.quiet_of_same (hq _)))
          (try go_wp2_with fail)
          go_meet
          case rel => exact ⟨rfl, nq, rfl⟩
        | false =>
          obtain rfl : s2 = true := by simpa using hs.symm
          go_quiet ((go_at_call 34; exact Calls.quiet_of_same (hq _)))
          (try go_wp2_with fail)
          go_meet
          case rel => exact ⟨rfl, nq, rfl⟩
      · have dg : decide ((i2 : Int) < (b : Int)) = false := decide_eq_false (by omega)
        rw [decide_eq_false hg, Bool.false_and] at hs
        clear HS2 he2
        obtain rfl : s2 = false := hs.symm
        go_quiet (fail)
        (try go_wp2_with fail)
        go_meet
        case rel => exact ⟨rfl, nq, rfl⟩
    case rest =>
    obtain ⟨rfl, kT, rfl⟩ := hcut
    have HR2' := Lib.hid (HR2.out.drewN kT)
    have HF2' := Lib.hid (HF2.out.drewN kT)
    generalize wr.drewN kT = W2 at *
    cases s2 with
    | true =>
      have hle := up_le HS2.out
      have hgo := ss_go he2 HS2.out
      have HGO := Lib.hid hgo
      clear hgo he2
      go_wp2_with fail
      go_roundw
      case rel => exact ⟨i2 + 1, by go_num, by omega, by omega, HGO.out.symm.trans HEX.out, HR2'.out, HF2'.out⟩
      case measure => simp [intOf] <;> omega
    | false =>
      have HX2 := Lib.hid (HEX.out.symm.trans (ss_end he2 HS2.out))
      clear HEX HS2 HR2 HF2
      have HE2 := Lib.hid he2
      clear he2
      by_cases hib : i2 = b
      · have q37 : ((i2 : Int) == (b : Int)) = true := by simp; omega
        have HSS := Lib.hid (pi_done (a := a) (s := 4 - k) HX2.out hib)
        go_wp2_with fail
        go_ret
        exact ⟨_, true, by rw [← HLL.out, HSS.out], rfl, HR2'.out, HF2'.out⟩
      · have q37 : ((i2 : Int) == (b : Int)) = false := by simp; omega
        by_cases h50 : b - a < 50
        · have d50 : decide ((b : Int) - (a : Int) < 50) = true := decide_eq_true (by omega)
          have HSS := Lib.hid (pi_short (a := a) (s := 4 - k) HX2.out hib h50)
          go_wp2_with fail
          go_ret
          exact ⟨_, false, by rw [← HLL.out, HSS.out], rfl, HR2'.out, HF2'.out⟩
        · have d50 : decide ((b : Int) - (a : Int) < 50) = false := decide_eq_false (by omega)
          have HSS := Lib.hid (pi_go (a := a) (s := 4 - k) HX2.out hib (by omega))
          have c1 := HR2'.out.cell (i := i2) (by omega)
          have c2 := HR2'.out.cell (i := e2) (by omega)
          have f1 := HR2'.out.free i2
          have f2 := HR2'.out.free e2
          have b1' : i2 < n := by omega
          have b2' : e2 < n := by omega
          have c3 := (Row.put HR2'.out (i := i2) dk[e2]!).cell b2'
          have c4 : (W2.setCell ⟨g, i2, none⟩ (.int .u64 dk[e2]!)).drew.cell? ⟨g, e2, none⟩ = _ := c3
          go_upto_region 11 with fail
          go_region
          have HRS := Lib.hid (HR2'.out.swp i2 e2).drew
          have HFS := Lib.hid (fr_two HF2'.out (List.mem_singleton.2 rfl) i2 e2 (.int .u64 dk[e2]!) (.int .u64 dk[i2]!)).drew
          clear c1 c2 c3 c4 f1 f2 b1' b2' HR2' HF2'
          generalize ((W2.setCell ⟨g, i2, none⟩ (.int .u64 dk[e2]!)).setCell ⟨g, e2, none⟩ (.int .u64 dk[i2]!)).drew = W3 at *
          obtain ⟨D2, hD2⟩ : ∃ D2, swp dk i2 e2 = D2 := ⟨_, rfl⟩
          rw [hD2] at HRS
          have HD2 := Lib.hid hD2
          clear hD2
          go_upto_if 61 with fail
          obtain ⟨D3, hD3⟩ : ∃ D3, shDn a i2 D2 = D3 := ⟨_, rfl⟩
          have HD3 := Lib.hid hD3
          clear hD3
          go_cut [9] from 62 to 94 (fun _ wx => RowA wx g n c D3 ∧ Fr [g] w wx)
          case first =>
            by_cases hi2a : 2 ≤ i2 - a
            · have d61 : decide ((2 : Int) ≤ (i2 : Int) - (a : Int)) = true := decide_eq_true (by omega)
              have HDN := Lib.hid (show D3 = shiftDown ltW e2 D2 by rw [← HD3.out, ← HE2.out]; unfold shDn; rw [if_pos hi2a])
              go_wp2_with fail
              go_loopw [9] (fun v wr => ∃ (j : Nat) (dj : Array Int), v = .int .i64 j ∧ j ≤ e2 ∧ shiftDown ltW j dj = shiftDown ltW e2 D2 ∧ RowA wr g n c dj ∧ Fr [g] w wr) (fun v _ => (intOf v).toNat)
              case atStart => exact ⟨e2, D2, by go_num, Nat.le_refl _, rfl, HRS.out, HFS.out⟩
              case round =>
              obtain ⟨j, dj, rfl, hj0, he, hr, hf⟩ := hrel
              have HEJ := Lib.hid he
              have HRJ := Lib.hid hr
              have HFJ := Lib.hid hf
              clear he hr hf
              by_cases hjg : 1 ≤ j
              · have dj1 : decide ((1 : Int) ≤ (j : Int)) = true := decide_eq_true (by omega)
                obtain ⟨e, he⟩ : ∃ e, j - 1 = e := ⟨_, rfl⟩
                have heI : (j : Int) - 1 = (e : Int) := by omega
                have c1 := HRJ.out.cell (i := j) (by omega)
                have c2 := HRJ.out.cell (i := e) (by omega)
                have hj1 : j < n := by omega
                have hj2 : e < n := by omega
                have hq := less_any dj[j]! dj[e]!
                obtain ⟨lb, hlb⟩ : ∃ lb, ltW dj[j]! dj[e]! = lb := ⟨_, rfl⟩
                rw [hlb] at hq
                have HONE := Lib.hid (sd_one he (by omega) hlb)
                have HEE := Lib.hid he
                clear hlb he
                go_upto_region 16 with fail
                go_quiet ((go_at_call 34; exact Calls.quiet_of_same (hq _)))
                have HRK := Lib.hid (HRJ.out.drewN nq)
                have HFK := Lib.hid (HFJ.out.drewN nq)
                clear c1 c2 hq HRJ HFJ
                generalize wr.drewN nq = WJ at *
                cases lb with
                | true =>
                  have heq := HONE.out
                  (first | rw [if_pos rfl] at heq | rw [if_pos trivial] at heq)
                  have HEQ := Lib.hid heq
                  clear heq HONE
                  have c1 := HRK.out.cell (i := j) (by omega)
                  have c2 := HRK.out.cell (i := e) (by omega)
                  have f1 := HRK.out.free j
                  have f2 := HRK.out.free e
                  have b1' : j < n := by omega
                  have b2' : e < n := by omega
                  have c3 := (Row.put HRK.out (i := j) dj[e]!).cell b2'
                  have c4 : (WJ.setCell ⟨g, j, none⟩ (.int .u64 dj[e]!)).drew.cell? ⟨g, e, none⟩ = _ := c3
                  go_upto_region 17 with fail
                  go_region
                  have HRM := Lib.hid (HRK.out.swp j e).drew
                  have HFM := Lib.hid (fr_two HFK.out (List.mem_singleton.2 rfl) j e (.int .u64 dj[e]!) (.int .u64 dj[j]!)).drew
                  clear c1 c2 c3 c4 f1 f2 b1' b2' HRK HFK
                  generalize ((WJ.setCell ⟨g, j, none⟩ (.int .u64 dj[e]!)).setCell ⟨g, e, none⟩ (.int .u64 dj[j]!)).drew = WM at *
                  go_wp2_with fail
                  go_roundw
                  case rel => exact ⟨e, _, by go_num, by omega, (HEQ.out.symm.trans HEJ.out), HRM.out, HFM.out⟩
                  case measure => simp [intOf] <;> omega
                | false =>
                  have heq := HONE.out
                  (first | rw [if_neg (by decide)] at heq | rw [if_neg not_false] at heq)
                  have HEQ := Lib.hid heq
                  clear heq HONE
                  go_wp2_with fail
                  go_meet
                  case rel => exact ⟨by rw [HDN.out, ← HEJ.out, HEQ.out]; exact HRK.out, HFK.out⟩
              · have dj1 : decide ((1 : Int) ≤ (j : Int)) = false := decide_eq_false (by omega)
                go_wp2_with fail
                go_meet
                case rel => exact ⟨by rw [HDN.out, ← HEJ.out, sd_end (by omega)]; exact HRJ.out, HFJ.out⟩
            · have d61 : decide ((2 : Int) ≤ (i2 : Int) - (a : Int)) = false := decide_eq_false (by omega)
              have HDN := Lib.hid (show D3 = D2 by rw [← HD3.out]; unfold shDn; rw [if_neg hi2a])
              go_wp2_with fail
              go_meet
              case rel => exact ⟨by rw [HDN.out]; exact HRS.out, HFS.out⟩
          case rest =>
          obtain ⟨hru, hfu⟩ := hcut
          have HRU := Lib.hid hru
          have HFU := Lib.hid hfu
          clear hru hfu HRS HFS
          go_upto_if 98 with fail
          obtain ⟨D4, hD4⟩ : ∃ D4, shUp b i2 D3 = D4 := ⟨_, rfl⟩
          have HD4 := Lib.hid hD4
          clear hD4
          by_cases hi2b : 2 ≤ b - i2
          · have d98 : decide ((2 : Int) ≤ (b : Int) - (i2 : Int)) = true := decide_eq_true (by omega)
            have HUP := Lib.hid (show D4 = shiftUp ltW b (i2 + 1) D3 by rw [← HD4.out]; unfold shUp; rw [if_pos hi2b])
            go_wp2_with fail
            go_loopw [10] (fun v wr => ∃ (j : Nat) (dj : Array Int), v = .int .i64 j ∧ i2 + 1 ≤ j ∧ 1 ≤ j ∧ shiftUp ltW b j dj = shiftUp ltW b (i2 + 1) D3 ∧ RowA wr g n c dj ∧ Fr [g] w wr) (fun v _ => 200000 - (intOf v).toNat)
            case atStart => exact ⟨i2 + 1, D3, by go_num, by omega, by omega, rfl, HRU.out, HFU.out⟩
            case round =>
            obtain ⟨j, dj, rfl, hj0, hj00, he, hr, hf⟩ := hrel
            have HEJ := Lib.hid he
            have HRJ := Lib.hid hr
            have HFJ := Lib.hid hf
            clear he hr hf
            by_cases hjg : j < b
            · have dj1 : decide ((j : Int) < (b : Int)) = true := decide_eq_true (by omega)
              obtain ⟨e, he⟩ : ∃ e, j - 1 = e := ⟨_, rfl⟩
              have heI : (j : Int) - 1 = (e : Int) := by omega
              have c1 := HRJ.out.cell (i := j) (by omega)
              have c2 := HRJ.out.cell (i := e) (by omega)
              have hj1 : j < n := by omega
              have hj2 : e < n := by omega
              have hq := less_any dj[j]! dj[e]!
              obtain ⟨lb, hlb⟩ : ∃ lb, ltW dj[j]! dj[e]! = lb := ⟨_, rfl⟩
              rw [hlb] at hq
              have HONE := Lib.hid (su_one (b := b) he (by omega) hlb)
              have HEE := Lib.hid he
              clear hlb he
              go_upto_region 22 with fail
              go_quiet ((go_at_call 34; exact Calls.quiet_of_same (hq _)))
              have HRK := Lib.hid (HRJ.out.drewN nq)
              have HFK := Lib.hid (HFJ.out.drewN nq)
              clear c1 c2 hq HRJ HFJ
              generalize wr.drewN nq = WJ at *
              cases lb with
              | true =>
                have heq := HONE.out
                (first | rw [if_pos rfl] at heq | rw [if_pos trivial] at heq)
                have HEQ := Lib.hid heq
                clear heq HONE
                have c1 := HRK.out.cell (i := j) (by omega)
                have c2 := HRK.out.cell (i := e) (by omega)
                have f1 := HRK.out.free j
                have f2 := HRK.out.free e
                have b1' : j < n := by omega
                have b2' : e < n := by omega
                have c3 := (Row.put HRK.out (i := j) dj[e]!).cell b2'
                have c4 : (WJ.setCell ⟨g, j, none⟩ (.int .u64 dj[e]!)).drew.cell? ⟨g, e, none⟩ = _ := c3
                go_upto_region 23 with fail
                go_region
                have HRM := Lib.hid (HRK.out.swp j e).drew
                have HFM := Lib.hid (fr_two HFK.out (List.mem_singleton.2 rfl) j e (.int .u64 dj[e]!) (.int .u64 dj[j]!)).drew
                clear c1 c2 c3 c4 f1 f2 b1' b2' HRK HFK
                generalize ((WJ.setCell ⟨g, j, none⟩ (.int .u64 dj[e]!)).setCell ⟨g, e, none⟩ (.int .u64 dj[j]!)).drew = WM at *
                go_wp2_with fail
                go_roundw
                case rel => exact ⟨j + 1, _, by go_num, by omega, by omega, (HEQ.out.symm.trans HEJ.out), HRM.out, HFM.out⟩
                case measure => simp [intOf] <;> omega
              | false =>
                have heq := HONE.out
                (first | rw [if_neg (by decide)] at heq | rw [if_neg not_false] at heq)
                have HEQ := Lib.hid heq
                clear heq HONE
                go_wp2_with fail
                go_roundw
                case rel => exact ⟨i2, k + 1, D4, by go_num, by go_num, by omega, by omega, by omega, (by rw [show 5 - (k + 1) = 4 - k by omega, ← HLL.out, HSS.out, ← HD4.out, ← HD3.out, ← HD2.out, HE2.out]), (by rw [HUP.out, ← HEJ.out, HEQ.out]; exact HRK.out), HFK.out⟩
                case measure => simp [intOf] <;> omega
            · have dj1 : decide ((j : Int) < (b : Int)) = false := decide_eq_false (by omega)
              go_wp2_with fail
              go_roundw
              case rel => exact ⟨i2, k + 1, D4, by go_num, by go_num, by omega, by omega, by omega, (by rw [show 5 - (k + 1) = 4 - k by omega, ← HLL.out, HSS.out, ← HD4.out, ← HD3.out, ← HD2.out, HE2.out]), (by rw [HUP.out, ← HEJ.out, su_end (by omega)]; exact HRJ.out), HFJ.out⟩
              case measure => simp [intOf] <;> omega
          · have d98 : decide ((2 : Int) ≤ (b : Int) - (i2 : Int)) = false := decide_eq_false (by omega)
            have HUP := Lib.hid (show D4 = D3 by rw [← HD4.out]; unfold shUp; rw [if_neg hi2b])
            go_wp2_with fail
            go_roundw
            case rel => exact ⟨i2, k + 1, D4, by go_num, by go_num, by omega, by omega, by omega, (by rw [show 5 - (k + 1) = 4 - k by omega, ← HLL.out, HSS.out, ← HD4.out, ← HD3.out, ← HD2.out, HE2.out]), (by rw [HUP.out]; exact HRU.out), HFU.out⟩
            case measure => simp [intOf] <;> omega
  · have dk5 : decide ((k : Int) < 5) = false := decide_eq_false (by omega)
    rw [show 5 - k = 0 by omega] at he
    have HLL := Lib.hid he
    clear he hr hf
    go_wp2_with fail
    go_ret
    exact ⟨_, false, by rw [← HLL.out]; rfl, rfl, HRL.out, HFL.out⟩
end Go.Proofs.Ytjejnkkefkompaa
