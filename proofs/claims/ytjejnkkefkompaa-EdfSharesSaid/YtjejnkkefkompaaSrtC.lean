/-
  slices.Sort at uint64: the sort of a heap.
-/
import Derived.Test.YtjejnkkefkompaaSrtB
namespace Go.Proofs.Ytjejnkkefkompaa
open Go Go.RowKit Go.Sort
set_option linter.unusedSimpArgs false
set_option linter.unusedVariables false

set_option maxRecDepth 100000 in
set_option maxHeartbeats 4000000 in
theorem heap_any {w : World} {g n c a b : Nat} {d : Array Int} (h : RowA w g n c d) (hab : a < b) (hb : b ≤ n) (hn : n ≤ 100000) :
    Calls Try.prog 29 #[.slice (some ⟨g, 0, none⟩) n c, .int .i64 a, .int .i64 b] w fun e w' => e = .returned (.tuple #[]) ∧ RowA w' g n c (heapSort ltW d a b) ∧ Fr [g] w w' := by
  have H := Lib.hid h
  have hnI : (n : Int) ≤ 100000 := by omega
  clear h
  obtain ⟨m, hm⟩ : ∃ m, b - a = m := ⟨_, rfl⟩
  obtain ⟨m1, hm1⟩ : ∃ m1, m - 1 = m1 := ⟨_, rfl⟩
  have hbI : (b : Int) - (a : Int) = (m : Int) := by omega
  have hmI : (m : Int) - 1 = (m1 : Int) := by omega
  have hmb : a + m ≤ n := by omega
  have hm1m : m1 < m := by omega
  have hes : heapSort ltW d a b = heapPop ltW a m (heapBuild ltW m a (m1 / 2 + 1) d) := by
    unfold heapSort
    rw [hm, hm1]
  have HES := Lib.hid hes
  clear hes hm hm1
  go_enter Try.func29, Try.ntmps29
  go_wp2_with fail
  go_loopw [9] (fun v wr => ∃ (k : Nat) (i : Int) (dk : Array Int), v = .int .i64 i ∧ i = (k : Int) - 1 ∧ k ≤ m1 / 2 + 1 ∧ heapBuild ltW m a k dk = heapBuild ltW m a (m1 / 2 + 1) d ∧ RowA wr g n c dk ∧ Fr [g] w wr) (fun v _ => (intOf v + 1).toNat)
  case atStart => exact ⟨m1 / 2 + 1, ((m1 / 2 : Nat) : Int), d, by go_num, by omega, by omega, rfl, H.out, Fr.refl _ _⟩
  case round =>
    obtain ⟨k, i, dk, rfl, hi, hk, he, hr, hf⟩ := hrel
    have HE := Lib.hid he
    have HR := Lib.hid hr
    have HF := Lib.hid hf
    clear he hr hf H
    cases k with
    | succ k =>
      obtain rfl : i = (k : Int) := by omega
      have dl : decide ((0 : Int) ≤ (k : Int)) = true := decide_eq_true (by omega)
      clear hi
      go_wp2_with fail
      (with_reducible refine (sift_any (lo := k) HR.out hmb hn (by omega)).mono ?_)
      rintro e w1 ⟨rfl, hr1, hf1⟩
      have HR1 := Lib.hid hr1
      have HF1 := Lib.hid (HF.out.trans hf1)
      clear hr1 hf1 HR HF
      go_wp2_with fail
      go_roundw
      case rel => exact ⟨k, (k : Int) - 1, _, by go_num, rfl, by omega, HE.out, HR1.out, HF1.out⟩
      case measure => simp [intOf] <;> omega
    | zero =>
      obtain rfl : i = -1 := by omega
      clear hi
      go_wp2_with fail
      go_loopw [10] (fun v wr => ∃ (k : Nat) (i : Int) (dk : Array Int), v = .int .i64 i ∧ i = (k : Int) - 1 ∧ k ≤ m ∧ heapPop ltW a k dk = heapSort ltW d a b ∧ RowA wr g n c dk ∧ Fr [g] w wr) (fun v _ => (intOf v + 1).toNat)
      case atStart => exact ⟨m, ((m : Int) - 1), dk, by go_num, by omega, by omega, (by rw [HES.out, ← HE.out]; rfl), HR.out, HF.out⟩
      case round =>
        obtain ⟨k, i, dj, rfl, hi, hk, he, hr, hf⟩ := hrel
        have HE2 := Lib.hid he
        have HR2 := Lib.hid hr
        have HF2 := Lib.hid hf
        clear he hr hf HR HF HE
        cases k with
        | succ k =>
          obtain rfl : i = (k : Int) := by omega
          have dl : decide ((0 : Int) ≤ (k : Int)) = true := decide_eq_true (by omega)
          clear hi
          obtain ⟨p, hp⟩ : ∃ p, a + k = p := ⟨_, rfl⟩
          have hpI : (a : Int) + (k : Int) = (p : Int) := by omega
          have c1 := HR2.out.cell (i := a) (by omega)
          have c2 := HR2.out.cell (i := p) (by omega)
          have f1 := HR2.out.free a
          have f2 := HR2.out.free p
          have b1 : a < n := by omega
          have b2 : p < n := by omega
          have HP := Lib.hid hp
          clear hp
          have c3 := (Row.put HR2.out (i := a) dj[p]!).cell b2
          have c4 : (wr.setCell ⟨g, a, none⟩ (.int .u64 dj[p]!)).drew.cell? ⟨g, p, none⟩ = _ := c3
          go_upto_region 10 with fail
          go_region
          have HS := Lib.hid (HR2.out.swp a p).drew
          have HFS := Lib.hid (fr_two HF2.out (List.mem_singleton.2 rfl) a p (.int .u64 dj[p]!) (.int .u64 dj[a]!)).drew
          clear c1 c2 c3 c4 f1 f2 HR2 HF2
          generalize ((wr.setCell ⟨g, a, none⟩ (.int .u64 dj[p]!)).setCell ⟨g, p, none⟩ (.int .u64 dj[a]!)).drew = W3 at *
          go_wp2_with fail
          have hs0 := sift_any (lo := 0) (hi := k) (first := a) HS.out (by omega) hn (by omega)
          rw [show ((0 : Nat) : Int) = 0 from rfl] at hs0
          (with_reducible refine hs0.mono ?_)
          rintro e w1 ⟨rfl, hr1, hf1⟩
          have HR1 := Lib.hid hr1
          have HF1 := Lib.hid (HFS.out.trans hf1)
          clear hr1 hf1 HS HFS
          go_wp2_with fail
          go_roundw
          case rel => exact ⟨k, (k : Int) - 1, _, by go_num, rfl, by omega, (by rw [← HE2.out, ← HP.out]; rfl), HR1.out, HF1.out⟩
          case measure => simp [intOf] <;> omega
        | zero =>
          obtain rfl : i = -1 := by omega
          clear hi
          go_wp2
          go_end0
          exact ⟨rfl, (by rw [← HE2.out]; exact HR2.out), HF2.out⟩

set_option maxRecDepth 100000 in
set_option maxHeartbeats 4000000 in
theorem reverse_any {w : World} {g n c a b : Nat} {d : Array Int} (h : RowA w g n c d) (hab : a < b) (hb : b ≤ n) (hn : n ≤ 100000) :
    Calls Try.prog 32 #[.slice (some ⟨g, 0, none⟩) n c, .int .i64 a, .int .i64 b] w fun e w' => e = .returned (.tuple #[]) ∧ RowA w' g n c (reverseRange d a b) ∧ Fr [g] w w' := by
  have H := Lib.hid h
  have hnI : (n : Int) ≤ 100000 := by omega
  clear h
  obtain ⟨b1, hb1⟩ : ∃ b1, b - 1 = b1 := ⟨_, rfl⟩
  have hbI : (b : Int) - 1 = (b1 : Int) := by omega
  have HES := Lib.hid (show reverseRange d a b = reverseLoop a b1 d by unfold reverseRange; rw [hb1])
  clear hb1
  go_enter Try.func32, Try.ntmps32
  go_wp2_with fail
  go_loopw [6, 7] (fun u v wr => ∃ (i j : Nat) (dk : Array Int), u = .int .i64 i ∧ v = .int .i64 j ∧ j ≤ b1 ∧ reverseLoop i j dk = reverseRange d a b ∧ RowA wr g n c dk ∧ Fr [g] w wr) (fun u v _ => (intOf v).toNat)
  case atStart => exact ⟨a, b1, d, by go_num, by go_num, by omega, HES.out.symm, H.out, Fr.refl _ _⟩
  case round =>
    obtain ⟨i, j, dk, rfl, rfl, hj, he, hr, hf⟩ := hrel
    have HE := Lib.hid he
    have HR := Lib.hid hr
    have HF := Lib.hid hf
    clear he hr hf H
    by_cases hlt : i < j
    · have dl : decide ((i : Int) < (j : Int)) = true := decide_eq_true (by omega)
      have c1 := HR.out.cell (i := i) (by omega)
      have c2 := HR.out.cell (i := j) (by omega)
      have f1 := HR.out.free i
      have f2 := HR.out.free j
      have b1 : i < n := by omega
      have b2 : j < n := by omega
      have HG := Lib.hid (show reverseLoop i j dk = reverseLoop (i + 1) (j - 1) (swp dk i j) by rw [reverseLoop, if_pos hlt])
      go_upto_region 3 with fail
      go_region
      have HS := Lib.hid (HR.out.swp i j).drew
      have HFS := Lib.hid (fr_two HF.out (List.mem_singleton.2 rfl) i j (.int .u64 dk[j]!) (.int .u64 dk[i]!)).drew
      clear c1 c2 f1 f2 HR HF
      generalize ((wr.setCell ⟨g, i, none⟩ (.int .u64 dk[j]!)).setCell ⟨g, j, none⟩ (.int .u64 dk[i]!)).drew = W3 at *
      go_wp2_with fail
      go_roundw
      case rel => exact ⟨i + 1, j - 1, _, by go_num, by go_num, by omega, (by rw [← HE.out, HG.out]), HS.out, HFS.out⟩
      case measure => simp [intOf] <;> omega
    · have dl : decide ((i : Int) < (j : Int)) = false := decide_eq_false (by omega)
      have HG := Lib.hid (show reverseLoop i j dk = dk by rw [reverseLoop, if_neg hlt])
      go_wp2
      go_end0
      exact ⟨rfl, (by rw [← HE.out, HG.out]; exact HR.out), HF.out⟩
end Go.Proofs.Ytjejnkkefkompaa
