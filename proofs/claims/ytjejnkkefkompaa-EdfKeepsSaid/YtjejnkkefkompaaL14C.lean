/-
  The walk of the statement EdfKeeps: it returns true.
-/
import Derived.Test.YtjejnkkefkompaaEdW
namespace Go.Proofs.Ytjejnkkefkompaa
open Go Go.RowKit
set_option linter.unusedSimpArgs false
set_option linter.unusedVariables false

set_option maxRecDepth 100000 in
set_option maxHeartbeats 4000000 in
theorem keeps14_law {W : World} {v : Value} {X : List Int} (h : WV W v X ∧ ∀ x, x ∈ X → 0 ≤ x) :
    Calls Try.prog 6 #[v] W fun e W' => e = .returned (.bool true) ∧ Below W.heap.size W W' := by
  obtain ⟨h1, h0⟩ := h
  have H0 := Lib.hid h0
  obtain ⟨a, n, c, rfl, hi, _, _⟩ := h1
  have hn := Lib.hid hi.1
  have H := Lib.hid hi
  clear hi h0
  by_cases hbig : 400 < n
  · have d1 : decide (400 < (n : Int)) = true := decide_eq_true (by omega)
    go_enter Try.func6, Try.ntmps6
    go_wp2
    go_ret
    exact ⟨rfl, Below.refl _ _⟩
  have d1 : decide (400 < (n : Int)) = false := decide_eq_false (by omega)
  go_enter Try.func6, Try.ntmps6
  go_wp2_with fail
  go_loopw [3, 4, 5] (fun hv mv i wr => ∃ (j : Nat) (Y : List Int) (m : Nat), j ≤ n ∧ i = .int .i64 j ∧ WV wr hv Y ∧ mv = .int .i64 m ∧ HeapE Y ∧ Y.length = m ∧ m ≤ j ∧ Below W.heap.size W wr) (fun _ _ i _ => n - (intOf i).toNat)
  case atStart => exact ⟨0, [], 0, by omega, rfl, WV.nil _, rfl, fun j hj hl => absurd hl (by simp), rfl, Nat.le_refl _, Below.refl _ _⟩
  case round =>
    obtain ⟨j, Z, z, hj, rfl, hv, rfl, hh, hz, hzj, hb⟩ := hrel
    have HZ := Lib.hid (And.intro hv (And.intro hh (And.intro hz hzj)))
    have HB := Lib.hid hb
    clear hv hh hz
    by_cases hlt : j < n
    · obtain ⟨x, rfl, hxb, hx⟩ := H.out.2.2 j hlt
      have hx2 : wr.cell? (x.add j) = some (.int .u64 (elt X j)) := (hb.cell (by rw [block_add]; exact hxb)).trans hx
      have hge : 0 ≤ elt X j := H0.out _ (elt_mem (by rw [hn.out]; exact hlt))
      have HK := Lib.hid (show ∃ k, elt X j = k from ⟨_, rfl⟩)
      clear hx hb
      generalize elt X j = u at *
      have m1 : Int.tmod u 2 = u % 2 := Int.tmod_eq_emod_of_nonneg hge
      have m2 : IntKind.u64.wrap (u % 2) = u % 2 := IntWalk.u64_in _ (by omega)
      by_cases hodd : u % 2 = 1
      · have HO := Lib.hid hodd
        have d2 : decide (u % 2 = 1) = true := decide_eq_true hodd
        rw [hodd] at m1
        have m3 : IntKind.u64.wrap 1 = 1 := by decide
        clear hodd m2 d2
        go_wp2_with fail
        (with_reducible refine (epush_any u HZ.out.1 (by have := HZ.out.2.2; omega)).mono ?_)
        rintro e w2 ⟨v2, rfl, hn2⟩
        have HB2 := Lib.hid (HB.out.trans (hn2.b.mono HB.out.size))
        obtain ⟨m, hm⟩ : ∃ m, z + 1 = m := ⟨_, rfl⟩
        have hmI : (z : Int) + 1 = (m : Int) := by omega
        have HY := Lib.hid (show WV w2 v2 (pushE Z u) ∧ HeapE (pushE Z u) ∧ (pushE Z u).length = m ∧ m ≤ j + 1 from ⟨hn2.wv, pushE_heap HZ.out.2.1, by rw [pushE_len, HZ.out.2.2.1]; exact hm, by omega⟩)
        have HM := Lib.hid hm
        clear hn2 hm HZ HB
        generalize pushE Z u = Y at *
        have dv : decide (HeapE Y) = true := decide_eq_true HY.out.2.1
        have dm : ((m : Int) != (m : Int)) = false := by simp
        have hvv := HY.out.1
        obtain ⟨ya, yn, yc, rfl, yi, _, _⟩ := hvv
        obtain rfl : yn = m := yi.1.symm.trans HY.out.2.2.1
        clear yi
        go_wp2_with fail
        (with_reducible refine (evalid_any HY.out.1 (by have := HY.out.2.2; omega)).mono ?_)
        rintro e w3 ⟨rfl, dd, rfl⟩
        rw [dv]
        go_wp2_with fail
        go_roundw
        case rel => exact ⟨j + 1, Y, yn, by omega, by go_num, HY.out.1, rfl, HY.out.2.1, HY.out.2.2.1, HY.out.2.2.2, HB2.out.trans ((below_drewN _ _).mono HB2.out.size)⟩
        case measure => simp [intOf]; omega
      · have hev : u % 2 = 0 := by omega
        have d2 : decide (u % 2 = 1) = false := decide_eq_false hodd
        rw [hev] at m1
        have m3 : IntKind.u64.wrap 0 = 0 := by decide
        clear hodd m2 d2 hev
        by_cases hz0 : z = 0
        · have hZ : Z = [] := List.eq_nil_of_length_eq_zero (HZ.out.2.2.1.trans hz0)
          subst hZ
          subst hz0
          go_wp2_with fail
          (with_reducible refine (epop_none HZ.out.1).mono ?_)
          rintro e w2 ⟨rfl, rfl⟩
          obtain ⟨Y, hY⟩ : ∃ Y : List Int, Y = [] := ⟨_, rfl⟩
          obtain ⟨m, hm⟩ : ∃ m : Nat, m = 0 := ⟨_, rfl⟩
          have HY := Lib.hid (show WV w2 (.slice none 0 0) Y ∧ HeapE Y ∧ Y.length = 0 ∧ 0 ≤ j + 1 from ⟨by rw [hY]; exact WV.nil _, by rw [hY]; exact fun j hj hl => absurd hl (by simp), by rw [hY]; rfl, by omega⟩)
          have HB2 := Lib.hid HB.out
          clear hY hm HZ HB
          go_wp2_with fail
          go_loopw [9] (fun q wq => q = .int .i64 0 ∧ wq = w2) (fun _ _ => 0)
          case atStart => exact ⟨rfl, rfl⟩
          case round =>
            obtain ⟨rfl, rfl⟩ := hrel
            have dv : decide (HeapE Y) = true := decide_eq_true HY.out.2.1
            go_wp2_with fail
            (with_reducible refine (evalid_any HY.out.1 (by have := HY.out.2.2; omega)).mono ?_)
            rintro e w3 ⟨rfl, dd, rfl⟩
            rw [dv]
            go_wp2_with fail
            go_roundw
            case rel => exact ⟨j + 1, Y, 0, by omega, by go_num, HY.out.1, rfl, HY.out.2.1, HY.out.2.2.1, HY.out.2.2.2, HB2.out.trans ((below_drewN _ _).mono HB2.out.size)⟩
            case measure => simp [intOf]; omega
        · obtain ⟨m, hm⟩ : ∃ m, z = m + 1 := ⟨z - 1, by omega⟩
          subst hm
          have d3 : decide (0 < ((m + 1 : Nat) : Int)) = true := decide_eq_true (by omega)
          have d3b : decide (0 < (m : Int) + 1) = true := decide_eq_true (by omega)
          go_wp2_with fail
          (with_reducible refine (epop_any HZ.out.1 (by have := HZ.out.2.2; omega) (by have := HZ.out.2.2; omega)).mono ?_)
          rintro e w2 ⟨v2, rfl, hn2⟩
          have HB2 := Lib.hid (HB.out.trans (hn2.b.mono HB.out.size))
          have HY := Lib.hid (show WV w2 v2 (popE Z) ∧ HeapE (popE Z) ∧ (popE Z).length = m ∧ m ≤ j + 1 from ⟨hn2.wv, popE_heap HZ.out.2.1, by rw [popE_len, HZ.out.2.2.1]; rfl, by omega⟩)
          have HMIN := Lib.hid (fun q (hq : q < m) => pop_min HZ.out.2.1 q (by rw [HZ.out.2.2.1]; exact hq))
          clear hn2 HZ HB
          generalize popE Z = Y at *
          generalize elt Z 0 = k at *
          have hvv := HY.out.1
          obtain ⟨ya, yn, yc, rfl, yi, _, _⟩ := hvv
          obtain rfl : yn = m := yi.1.symm.trans HY.out.2.2.1
          have YI := Lib.hid yi
          clear yi
          go_wp2_with fail
          go_loopw [9] (fun q wq => ∃ p : Nat, p ≤ yn ∧ q = .int .i64 p ∧ wq = w2) (fun q _ => yn - (intOf q).toNat)
          case atStart => exact ⟨0, by omega, rfl, rfl⟩
          case round =>
            obtain ⟨p, hp, rfl, rfl⟩ := hrel
            by_cases hpl : p < yn
            · obtain ⟨y, rfl, _, hy⟩ := YI.out.2.2 p hpl
              have hy2 : wr.cell? (y.add p) = some (.int .u64 (elt Y p)) := hy
              have d4 : decide (elt Y p < k) = false := decide_eq_false (by have := HMIN.out p hpl; omega)
              clear hy
              go_wp2_with fail
              go_roundw
              case rel => exact ⟨p + 1, by omega, by go_num, trivial⟩
              case measure => simp [intOf]; omega
            · have dp : decide ((p : Int) < (yn : Int)) = false := decide_eq_false (by omega)
              have dv : decide (HeapE Y) = true := decide_eq_true HY.out.2.1
              go_wp2_with fail
              (with_reducible refine (evalid_any HY.out.1 (by have := HY.out.2.2; omega)).mono ?_)
              rintro e w3 ⟨rfl, dd, rfl⟩
              rw [dv]
              go_wp2_with fail
              go_roundw
              case rel => exact ⟨j + 1, Y, yn, by omega, by go_num, HY.out.1, rfl, HY.out.2.1, HY.out.2.2.1, HY.out.2.2.2, HB2.out.trans ((below_drewN _ _).mono HB2.out.size)⟩
              case measure => simp [intOf]; omega
    · obtain rfl : j = n := by omega
      go_wp2_with fail
      (with_reducible refine (awake14_any _).mono ?_)
      rintro e w3 ⟨rfl, b3⟩
      go_wp2
      go_ret
      exact ⟨rfl, HB.out.trans (b3.mono HB.out.size)⟩
end Go.Proofs.Ytjejnkkefkompaa
