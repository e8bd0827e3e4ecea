/-
  slices.Sort at uint64: rows as arrays, Less, the insertion sort.
-/
import Derived.Test.YtjejnkkefkompaaEdA
import Derived.Sort.LotA
import Derived.Sort.LotB
import Derived.Sort.LotC
import Derived.BigRegion
namespace Go.Proofs.Ytjejnkkefkompaa
open Go Go.RowKit Go.Sort
set_option linter.unusedSimpArgs false
set_option linter.unusedVariables false

/-- Less. -/
abbrev ltW (x y : Int) : Bool := decide (x < y)
theorem swo_ltW : SWO ltW where
  irrefl := fun x => decide_eq_false (by omega)
  trans := fun x y z h1 h2 => by
    simp only [decide_eq_true_eq] at *
    omega
  ntrans := fun x y z h1 h2 => by
    simp only [decide_eq_false_iff_not] at *
    omega
/-- The first n cells of block g hold the array d. -/
def RowA (w : World) (g n c : Nat) (d : Array Int) : Prop := Row w g n c d.toList
section
variable {w w' : World} {g n c : Nat} {d : Array Int}
theorem RowA.size (h : RowA w g n c d) : d.size = n := by have := h.len; simpa using this
theorem arr_get (d : Array Int) (i : Nat) : d.toList.getD i 0 = d[i]! := by
  rw [List.getD_eq_getElem?_getD]
  by_cases h : i < d.size
  · rw [List.getElem?_eq_getElem (by simpa using h), getElem!_pos d i h]
    simp
  · rw [List.getElem?_eq_none (by simpa using h), getElem!_neg d i h]
    rfl
theorem RowA.cell (h : RowA w g n c d) {i : Nat} (hi : i < n) : w.cell? ⟨g, i, none⟩ = some (.int .u64 d[i]!) := by
  rw [← arr_get]
  exact Row.cell h hi
theorem RowA.free (h : RowA w g n c d) (i : Nat) : w.frozen? ⟨g, i, none⟩ = false := Row.free h i
theorem RowA.lt (h : RowA w g n c d) : g < w.heap.size := Row.lt h
theorem RowA.drewN (h : RowA w g n c d) (m : Nat) : RowA (w.drewN m) g n c d := Row.of_same h rfl
theorem RowA.drew (h : RowA w g n c d) : RowA w.drew g n c d := Row.of_same h rfl
theorem RowA.same (h : RowA w g n c d) (e : w'.heap[g]? = w.heap[g]?) : RowA w' g n c d := Row.of_same h e
/-- Two places are swapped. -/
theorem RowA.swp (h : RowA w g n c d) (i j : Nat) : RowA ((w.setCell ⟨g, i, none⟩ (.int .u64 d[j]!)).setCell ⟨g, j, none⟩ (.int .u64 d[i]!)) g n c (swp d i j) := by
  have h1 := (Row.put h (i := i) d[j]!).put (i := j) d[i]!
  unfold RowA Sort.swp
  rw [Array.toList_setIfInBounds, Array.toList_setIfInBounds]
  exact h1
end
theorem fr_two {S : List Nat} {w0 w : World} {g : Nat} (h : Fr S w0 w) (hg : g ∈ S) (i j : Nat) (u v : Value) : Fr S w0 ((w.setCell ⟨g, i, none⟩ u).setCell ⟨g, j, none⟩ v) := (h.setCell (p := ⟨g, i, none⟩) (.inl hg) u).setCell (p := ⟨g, j, none⟩) (.inl hg) v

set_option maxRecDepth 100000 in
theorem isnan_any (x : Int) (w : World) : Calls Try.prog 44 #[.int .u64 x] w fun e w' => e = .returned (.bool false) ∧ w' = w := by
  have h : (x != x) = false := by simp
  go_enter Try.func44, Try.ntmps44
  go_wp2
  go_ret
  exact ⟨rfl, rfl⟩
set_option maxRecDepth 100000 in
theorem less_any (x y : Int) (w : World) : Calls Try.prog 34 #[.int .u64 x, .int .u64 y] w fun e w' => e = .returned (.bool (ltW x y)) ∧ w' = w := by
  go_enter Try.func34, Try.ntmps34
  go_wp2_with fail
  (with_reducible refine (isnan_any x _).mono ?_)
  rintro e w1 ⟨rfl, rfl⟩
  by_cases h : x < y
  · have d1 : ltW x y = true := decide_eq_true h
    go_wp2
    go_ret
    refine ⟨?_, rfl⟩
    rw [d1]
    rfl
  · have d1 : ltW x y = false := decide_eq_false h
    go_wp2
    go_ret
    refine ⟨?_, rfl⟩
    rw [d1]
    rfl

theorem insInner_go {a j : Nat} {d : Array Int} (h : a < j + 1) (hl : ltW d[j + 1]! d[j]! = true) : insInner ltW a (j + 1) d = insInner ltW a j (swp d (j + 1) j) := by
  rw [insInner, if_pos (by simp only [Bool.and_eq_true, decide_eq_true_eq]; exact ⟨h, by simpa using hl⟩)]
theorem insInner_end {a j : Nat} {d : Array Int} (h : j ≤ a ∨ ltW d[j]! d[j - 1]! = false) : insInner ltW a j d = d := by
  cases j with
  | zero => rfl
  | succ j =>
    rw [insInner, if_neg]
    simp only [Bool.and_eq_true, decide_eq_true_eq, not_and]
    intro h1 h2
    rcases h with h | h
    · omega
    · simp only [Nat.add_sub_cancel] at h
      have := of_decide_eq_false h
      exact this h2
theorem insOuter_go {a b i : Nat} {d : Array Int} (h : i < b) : insOuter ltW a b i d = insOuter ltW a b (i + 1) (insInner ltW a i d) := by rw [insOuter, if_pos h]
theorem insOuter_end {a b i : Nat} {d : Array Int} (h : b ≤ i) : insOuter ltW a b i d = d := by rw [insOuter, if_neg (by omega)]
set_option maxRecDepth 100000 in
set_option maxHeartbeats 4000000 in
theorem insertion_any {w : World} {g n c a b : Nat} {d : Array Int} (h : RowA w g n c d) (hab : a ≤ b) (hb : b ≤ n) (hn : n ≤ 100000) :
    Calls Try.prog 28 #[.slice (some ⟨g, 0, none⟩) n c, .int .i64 a, .int .i64 b] w fun e w' => e = .returned (.tuple #[]) ∧ RowA w' g n c (insertionSort ltW d a b) ∧ Fr [g] w w' := by
  have H := Lib.hid h
  have hnI : (n : Int) ≤ 100000 := by omega
  clear h
  go_enter Try.func28, Try.ntmps28
  go_wp2_with fail
  go_loopw [6] (fun v wr => ∃ (i : Nat) (dk : Array Int), v = .int .i64 i ∧ a + 1 ≤ i ∧ (i ≤ b ∨ i = a + 1) ∧ insOuter ltW a b i dk = insertionSort ltW d a b ∧ RowA wr g n c dk ∧ Fr [g] w wr) (fun v _ => b - (intOf v).toNat)
  case atStart => exact ⟨a + 1, d, by go_num, by omega, .inr rfl, rfl, H.out, Fr.refl _ _⟩
  case round =>
    obtain ⟨i, dk, rfl, hi0, hi1, he, hr, hf⟩ := hrel
    have HE := Lib.hid he
    have HR := Lib.hid hr
    have HF := Lib.hid hf
    clear he hr hf H
    by_cases hlt : i < b
    · have dl : decide ((i : Int) < (b : Int)) = true := decide_eq_true (by omega)
      have HG := Lib.hid (insOuter_go (a := a) (d := dk) hlt)
      go_wp2_with fail
      go_loopw [7] (fun v wr => ∃ (j : Nat) (dj : Array Int), v = .int .i64 j ∧ a ≤ j ∧ j ≤ i ∧ insInner ltW a j dj = insInner ltW a i dk ∧ RowA wr g n c dj ∧ Fr [g] w wr) (fun v _ => (intOf v).toNat)
      case atStart => exact ⟨i, dk, rfl, by omega, by omega, rfl, HR.out, HF.out⟩
      case round =>
        obtain ⟨j, dj, rfl, hj0, hj1, hej, hrj, hfj⟩ := hrel
        have HEJ := Lib.hid hej
        have HRJ := Lib.hid hrj
        have HFJ := Lib.hid hfj
        clear hej hrj hfj HR HF
        by_cases hja : a < j
        · obtain ⟨k, rfl⟩ : ∃ k, j = k + 1 := ⟨j - 1, by omega⟩
          have dj1 : decide ((a : Int) < ((k + 1 : Nat) : Int)) = true := decide_eq_true (by omega)
          have dj2 : decide ((a : Int) < (k : Int) + 1) = true := decide_eq_true (by omega)
          have c1 := HRJ.out.cell (i := k + 1) (by omega)
          have c2 := HRJ.out.cell (i := k) (by omega)
          have f1 := HRJ.out.free (k + 1)
          have f2 := HRJ.out.free k
          have kk : ((k + 1 : Nat) : Int) - 1 = (k : Int) := by omega
          have hk1 : k + 1 < n := by omega
          have hk2 : k < n := by omega
          have hq := less_any dj[k + 1]! dj[k]!
          have hgo := insInner_go (a := a) (j := k) (d := dj) (by omega)
          have hst := insInner_end (a := a) (j := k + 1) (d := dj)
          rw [Nat.add_sub_cancel] at hst
          have HSW := Lib.hid (HRJ.out.drewN)
          obtain ⟨lb, hlb⟩ : ∃ lb, ltW dj[k + 1]! dj[k]! = lb := ⟨_, rfl⟩
          rw [hlb] at hq hgo hst
          have HGO := Lib.hid hgo
          have HST := Lib.hid hst
          clear hgo hst hlb
          go_wp2_with fail
          go_quiet ((go_at_call 34; exact Calls.quiet_of_same (hq _)))
          have HR2 := Lib.hid (HRJ.out.drewN nq)
          have HF2 := Lib.hid (HFJ.out.drewN nq)
          clear c1 c2 f1 f2 hq HSW
          generalize wr.drewN nq = W2 at *
          cases lb with
          | true =>
            have c1 := HR2.out.cell (i := k + 1) (by omega)
            have c2 := HR2.out.cell (i := k) (by omega)
            have f1 := HR2.out.free (k + 1)
            have f2 := HR2.out.free k
            go_upto_region 6 with fail
            go_region
            have HS := Lib.hid (HR2.out.swp (k + 1) k).drew
            have HFS := Lib.hid (fr_two HF2.out (List.mem_singleton.2 rfl) (k + 1) k (.int .u64 dj[k]!) (.int .u64 dj[k + 1]!)).drew
            clear c1 c2 f1 f2
            generalize ((W2.setCell ⟨g, k + 1, none⟩ (.int .u64 dj[k]!)).setCell ⟨g, k, none⟩ (.int .u64 dj[k + 1]!)).drew = W3 at *
            go_wp2_with fail
            go_roundw
            case rel =>
              refine ⟨k, swp dj (k + 1) k, rfl, by omega, by omega, ?_, HS.out, HFS.out⟩
              rw [← HEJ.out, HGO.out rfl]
            case measure => simp [intOf]
          | false =>
            go_wp2_with fail
            go_roundw
            case rel =>
              refine ⟨i + 1, dj, by go_num, by omega, .inl (by omega), ?_, HR2.out, HF2.out⟩
              rw [← HE.out, HG.out, ← HEJ.out, HST.out (.inr rfl)]
            case measure => simp [intOf]; omega
        · obtain rfl : j = a := by omega
          have dj1 : decide ((j : Int) < (j : Int)) = false := by simp
          have hst := insInner_end (a := j) (j := j) (d := dj) (.inl (Nat.le_refl _))
          have HST := Lib.hid hst
          clear hst
          go_wp2_with fail
          go_quiet (fail)
          go_wp2_with fail
          go_roundw
          case rel =>
            refine ⟨i + 1, dj, by go_num, by omega, .inl (by omega), ?_, HRJ.out.drewN _, HFJ.out.drewN _⟩
            rw [← HE.out, HG.out, ← HEJ.out, HST.out]
          case measure => simp [intOf]; omega
    · have dl : decide ((i : Int) < (b : Int)) = false := decide_eq_false (by omega)
      have HG := Lib.hid (insOuter_end (a := a) (b := b) (i := i) (d := dk) (by omega))
      go_wp2
      go_end0
      refine ⟨rfl, ?_, HF.out⟩
      rw [← HE.out, HG.out]
      exact HR.out
end Go.Proofs.Ytjejnkkefkompaa
