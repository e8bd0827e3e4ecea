/-
  edf.Sorted; the reference's Valid.
-/
import Derived.Test.YtjejnkkefkompaaSrtK
import Derived.Test.YtjejnkkefkompaaEdW
namespace Go.Proofs.Ytjejnkkefkompaa
open Go Go.RowKit Go.Sort
set_option linter.unusedSimpArgs false
set_option linter.unusedVariables false

/-- The elements in ascending order. -/
def srtE (X : List Int) : List Int := X.mergeSort (fun x y => !ltW y x)
theorem srt_of {X : List Int} {d' : Array Int} (h1 : PermIn 0 X.length X.toArray d') (h2 : SortedIn ltW 0 X.length d') : d'.toList = srtE X :=
  sorted_unique_holds swo_ltW (fun x y a b => by
    have a := of_decide_eq_false a
    have b := of_decide_eq_false b
    omega) X.toArray d' h1 h2
theorem srtE_len (X : List Int) : (srtE X).length = X.length := List.length_mergeSort _
set_option maxRecDepth 100000 in
theorem esorted_any {w : World} {v : Value} {X : List Int} (h : WV w v X) (hl : X.length ≤ 900) :
    Calls Try.prog 16 #[v] w fun e w' => ∃ v', e = .returned v' ∧ NewW w w' v' (srtE X) := by
  have HC := Lib.hid (copied_any X.length h rfl (by omega))
  obtain ⟨a, n, c, rfl, hi, _, _⟩ := h
  have hn := hi.1
  rw [hn] at HC
  have HN := Lib.hid hn
  have hn9 : n ≤ 900 := by omega
  clear hi hn hl
  go_enter Try.func16, Try.ntmps16
  go_wp2_with fail
  (with_reducible refine HC.out.mono ?_)
  rintro e w1 ⟨rfl, hr, hb⟩
  have hX : X.take n ++ List.replicate (n - n) 0 = X := by
    rw [Nat.sub_self, List.take_of_length_le (by rw [HN.out]; exact Nat.le_refl _)]
    simp
  rw [hX] at hr
  have HR : Hid (RowA w1 w.heap.size n n X.toArray) := Lib.hid hr
  have HB := Lib.hid hb
  clear hr hb hX HC
  go_wp2_with fail
  (with_reducible refine (sort_any HR.out (by omega)).mono ?_)
  rintro e w2 ⟨d', rfl, h1, h2, h3, h4⟩
  have hs := srt_of (X := X) (by rw [HN.out]; exact h1) (by rw [HN.out]; exact h2)
  go_wp2
  go_ret
  refine ⟨_, rfl, w.heap.size, n, n, rfl, Nat.le_refl _, ?_, below_of_fr HB.out h4 (fun x hx => by rw [List.mem_singleton.1 hx]; exact Nat.le_refl _)⟩
  rw [← hs]
  exact h3

set_option maxRecDepth 100000 in
set_option maxHeartbeats 2000000 in
theorem rvalid_any {w : World} {v : Value} {X : List Int} (h : WV w v X) (hl : X.length ≤ 900) :
    Calls Try.prog 18 #[v] w fun e w' => e = .returned (.bool (decide (HeapE X))) ∧ ∃ d, w' = w.drewN d := by
  obtain ⟨a, n, c, rfl, hi, hc, ha⟩ := h
  have hn := hi.1
  have HI := Lib.hid hi
  clear hi hc ha
  rw [hn] at hl
  by_cases h0 : n = 0
  · subst h0
    have e0 : decide (HeapE X) = true := decide_eq_true (fun j hj hl => by omega)
    rw [e0]
    go_enter Try.func18, Try.ntmps18
    go_wp2_with fail
    go_loopw [3] (fun i wr => i = .int .i64 1 ∧ wr = w) (fun i _ => 0)
    case atStart => exact ⟨rfl, rfl⟩
    case round =>
      obtain ⟨rfl, rfl⟩ := hrel
      go_wp2
      go_ret
      exact ⟨rfl, 0, rfl⟩
  · obtain ⟨x, rfl, hx, _⟩ := HI.out.2.2 0 (by omega)
    go_enter Try.func18, Try.ntmps18
    go_wp2_with fail
    go_loopw [3] (fun i wr => ∃ (j d : Nat), 1 ≤ j ∧ j ≤ n ∧ i = .int .i64 j ∧ wr = w.drewN d ∧ ∀ m, 0 < m → m < j → elt X ((m - 1) / 2) ≤ elt X m) (fun i _ => n - (intOf i).toNat)
    case atStart => exact ⟨1, 0, Nat.le_refl _, by omega, rfl, rfl, fun m h1 h2 => by omega⟩
    case round =>
      obtain ⟨j, d, hj1, hj, rfl, rfl, hall⟩ := hrel
      have HA := Lib.hid hall
      clear hall
      by_cases hlt : j < n
      · have c1 : (w.drewN d).cell? (x.add j) = some (.int .u64 (elt X j)) := HI.out.cell hlt
        have c2 : (w.drewN d).cell? (x.add ((j - 1) / 2)) = some (.int .u64 (elt X ((j - 1) / 2))) := HI.out.cell (by omega)
        have hpn : (j - 1) / 2 < n := by omega
        obtain ⟨j1, hj1'⟩ : ∃ k, j - 1 = k := ⟨_, rfl⟩
        have s1 : (j : Int) - 1 = (j1 : Int) := by omega
        obtain ⟨p, hP⟩ : ∃ k, (j - 1) / 2 = k := ⟨_, rfl⟩
        have s2 : (j1 : Int) / 2 = (p : Int) := by omega
        have s3 : Int.tdiv (j1 : Int) 2 = (p : Int) := by rw [Int.tdiv_eq_ediv_of_nonneg (by omega)]; exact s2
        rw [hP] at c2 hpn
        have HPP := Lib.hid hP
        clear hP hj1'
        generalize hW : w.drewN d = V at *
        by_cases hle : elt X p ≤ elt X j
        · have dl : decide (elt X j < elt X p) = false := decide_eq_false (by omega)
          go_wp2_with fail
          go_quiet (fail)
          go_wp2
          go_roundw
          case rel =>
            refine ⟨j + 1, _, by omega, by omega, by go_num, by rw [← hW]; exact World.drewN_drewN _ _ _, fun m h1 h2 => ?_⟩
            by_cases e : m = j
            · subst e
              rw [HPP.out]
              exact hle
            · exact HA.out m h1 (by omega)
          case measure => simp [intOf]; omega
        · have dl : decide (elt X j < elt X p) = true := decide_eq_true (by omega)
          go_wp2_with fail
          go_quiet (fail)
          go_wp2
          go_ret
          refine ⟨?_, _, by rw [← hW]; exact World.drewN_drewN _ _ _⟩
          rw [decide_eq_false (fun hh : HeapE X => by
            have := hh j (by omega) (by omega)
            rw [HPP.out] at this
            omega)]
          rfl
      · have hjn : j = n := by omega
        have dn : decide ((j : Int) < (n : Int)) = false := decide_eq_false (by omega)
        go_wp2
        go_ret
        refine ⟨?_, _, rfl⟩
        rw [decide_eq_true (show HeapE X from fun m h1 h2 => HA.out m h1 (by omega))]
        rfl
end Go.Proofs.Ytjejnkkefkompaa
