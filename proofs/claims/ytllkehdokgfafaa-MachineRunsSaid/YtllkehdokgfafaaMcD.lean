/-
  The walk of the statement MachineRuns: it returns true.
-/
import Derived.Test.YtllkehdokgfafaaMcC
import Derived.Test.YtllkehdokgfafaaBel
import Derived.Test.YtllkehdokgfafaaOpen
namespace Go.Proofs.Ytllkehdokgfafaa
open Go Go.RowKit Go.Shelf

theorem u8_in {a : Int} (h : (Lit.int .u8 a).wf = true) : 0 ≤ a ∧ a ≤ 255 := by
  simp only [Lit.wf, Bool.and_eq_true, decide_eq_true_eq] at h
  have h0 : IntKind.u8.min = 0 := rfl
  have h1 : IntKind.u8.max = 255 := rfl
  rw [h0, h1] at h
  exact h

theorem ints_one (w : World) (x : Int) : InInts (w.alloc (.cells #[.int .i64 x] 3)) (some ⟨w.heap.size, 0, none⟩) 1 [x] := by
  refine ⟨rfl, by unfold maxLen; omega, fun i hi => ⟨_, rfl, by simp, ?_⟩⟩
  obtain rfl : i = 0 := by omega
  exact (Blk.made w 3 #[.int .i64 x]).at_ 0

theorem five (z : Int) (y : Nat) (P : Prop) (a : z ≤ 0 → (y : Int) < 1 → P) (b : z ≤ 0 → 1 ≤ (y : Int) → P) (c : 0 < z → (y : Int) < 1 → P) (d : 0 < z → 1 ≤ (y : Int) → z ≤ y → P) (e : 0 < z → 1 ≤ (y : Int) → (y : Int) < z → P) : P := by
  by_cases h1 : z ≤ 0 <;> by_cases h2 : (y : Int) < 1 <;> by_cases h3 : z ≤ y
  all_goals first | exact a (by omega) (by omega) | exact b (by omega) (by omega) | exact c (by omega) (by omega) | exact d (by omega) (by omega) (by omega) | exact e (by omega) (by omega) (by omega)

set_option maxRecDepth 100000 in
set_option maxHeartbeats 4000000 in
theorem runs_law (a0 most : Int) (a2 : Int) (hm : most ≤ 9223372036854775807) (h0 : 0 ≤ a2) (h1 : a2 ≤ 255) (w : World) :
    Calls Try.prog 4 #[.int .i64 a0, .int .i64 most, .int .u8 a2] w fun e w' => e = .returned (.bool true) ∧ Below w.heap.size w w' := by
  have h00 := keepnum_any (ints_one w a0) 1 0 (by decide) 50 (by decide) (by decide)
  rw [show ((0 : Nat) : Int) = 0 from rfl] at h00
  have H0 := Lib.hid h00
  clear h00
  go_enter Try.func4, Try.ntmps4
  go_wp2_with fail
  (with_reducible refine H0.out.mono ?_)
  rintro e w1 ⟨y, hy, rfl, dn, hw1⟩
  have hb1 : Below w.heap.size w w1 := by rw [hw1]; exact ((Below.refl _ _).alloc (Nat.le_refl _) _).trans ((below_drewN _ _).mono (by simp))
  clear hw1
  go_upto_if 18 with fail
  go_cut [1] from 17 to 20 (fun m wx => ∃ z : Int, m = .int .i64 z ∧ z ≤ 1000 ∧ wx = w1)
  case first =>
    by_cases hc : 1000 < most
    · go_wp2_with fail
      go_meet
      case rel => exact ⟨_, rfl, by omega, rfl⟩
    · go_wp2_with fail
      go_meet
      case rel => exact ⟨_, rfl, by omega, rfl⟩
  case rest =>
    obtain ⟨z, rfl, hz, rfl⟩ := hcut
    go_wp2_with fail
    (with_reducible refine (bare_any 2 _).mono ?_)
    rintro e w2 ⟨p, m, k, g, rfl, hp, hb, l1, l2, l3, l4⟩
    have e1 : sizeS 2 = 2 := rfl
    rw [e1] at hp
    have hb2 : Below w.heap.size w w2 := hb1.trans (hb.mono hb1.size)
    have hs1 := hb1.size
    clear hb e1
    have h20 := hp.at20
    have HP := Lib.hid hp
    have HB := Lib.hid hb2
    have HL := Lib.hid (show w.heap.size ≤ p ∧ w.heap.size ≤ m ∧ w.heap.size ≤ k ∧ w.heap.size ≤ g by omega)
    clear hb2 l1 l2 l3 l4 hs1 hb1 hp
    go_wp2_with fail
    (with_reducible refine (awake_any _).mono ?_)
    rintro e w3 ⟨rfl, hb⟩
    have hp3 := HP.out.below hb
    have h20 := hp3.at20
    have HB3 := Lib.hid (HB.out.trans (hb.mono HB.out.size))
    have HP3 := Lib.hid hp3
    clear hb hp3 HP HB
    go_wp2_with fail
    have hra := run_any (n := y) (HP3.out.alloc (.cells #[.int .i64 1, .int .i64 y] 54)) (by omega) (cnt_made w3 1 y) z
    have HRA := Lib.hid hra
    clear hra
    (with_reducible refine HRA.out.mono ?_)
    rintro e w4 ⟨rfl, hp4, hc4, hf4⟩
    have HB4 := Lib.hid (below_of_fr (HB3.out.alloc HB3.out.size (.cells #[.int .i64 1, .int .i64 y] 54)) hf4 (by have := HB3.out.size; have := HL.out; intro x hx; simp only [List.mem_cons, List.not_mem_nil, or_false] at hx; omega))
    have h20 := hp4.at20
    have HP4 := Lib.hid hp4
    have HC4 := Lib.hid hc4
    clear hp4 hc4 hf4 HRA HP3
    have HQ := Lib.hid (show w.heap.size ≤ w3.heap.size from HB3.out.size)
    clear HB3
    obtain ⟨M, hM⟩ : ∃ M, z.toNat = M := ⟨_, rfl⟩
    obtain ⟨A, hA⟩ : ∃ A, max 1 y = A := ⟨_, rfl⟩
    obtain ⟨D, hD⟩ : ∃ D, min y M = D := ⟨_, rfl⟩
    obtain ⟨E, hE⟩ : ∃ E, min A M = E := ⟨_, rfl⟩
    obtain ⟨bb, hbb⟩ : ∃ bb, decide (A ≤ M) = bb := ⟨_, rfl⟩
    rw [hM] at HP4 HC4 ⊢
    rw [hA, hbb, hE]
    rw [hD] at HP4 HC4
    have HN := Lib.hid (And.intro hM (And.intro hA (And.intro hD (And.intro hE hbb))))
    clear hM hA hD hE hbb
    generalize w3.heap.size = q at *
    go_upto_region 9 with fail
    go_cut [11, 12] from 46 to 54 (fun s11 s12 wx => s11 = .int .i64 E ∧ s12 = .bool bb ∧ wx = w4)
    case first =>
      apply five z y
      all_goals intros
      all_goals go_wp2_with fail
      all_goals go_meet
      all_goals (case rel => (obtain ⟨n1, n2, n3, n4, n5⟩ := HN.out; exact ⟨by congr 1; omega, by rw [← n5]; congr 1; rw [Bool.eq_iff_iff]; simp; omega, rfl⟩))
    case rest =>
      obtain ⟨rfl, rfl, rfl⟩ := hcut
      have hpk := peek_any HP4.out.mem 1
      rw [show (addS (St.new 2) 1 D).old 1 = (D : Int) from (addS_old (St.new 2) 1 (by decide) 0 (by decide) D (by have := HN.out.2.2.1; omega)).trans (by simp)] at hpk
      have HPK := Lib.hid hpk
      clear hpk
      go_upto_region 10 with fail
      go_cut [75] from 55 to 75 (fun s75 wx => s75 = .bool false ∧ wx = wc)
      case first =>
        apply five z y
        all_goals intros
        all_goals go_wp2_with fail
        all_goals (with_reducible refine HPK.out.mono ?_)
        all_goals (rintro e w5 ⟨rfl, rfl⟩)
        all_goals go_wp2_with fail
        all_goals go_meet
        all_goals (case rel => (obtain ⟨n1, n2, n3, n4, n5⟩ := HN.out; exact ⟨by congr 1; simp; omega, rfl⟩))
      case rest =>
        obtain ⟨rfl, rfl⟩ := hcut
        clear HPK
        have hra := run_any (n := y - D) HP4.out (by omega) HC4.out a2
        have HRA := Lib.hid hra
        clear hra
        go_wp2_with fail
        (with_reducible refine HRA.out.mono ?_)
        rintro e w5 ⟨rfl, hp5, hc5, hf5⟩
        have HB5 := Lib.hid (below_of_fr HB4.out hf5 (by have := HQ.out; have := HL.out; intro x hx; simp only [List.mem_cons, List.not_mem_nil, or_false] at hx; omega))
        clear hp5 hc5 hf5 HRA HP4 HC4 HB4 h20
        obtain ⟨G, hG⟩ : ∃ G, max 1 (y - D) = G := ⟨_, rfl⟩
        obtain ⟨L, hL⟩ : ∃ L, min G a2.toNat = L := ⟨_, rfl⟩
        obtain ⟨cc, hcc⟩ : ∃ cc, decide (G ≤ a2.toNat) = cc := ⟨_, rfl⟩
        rw [hG, hL, hcc]
        have HN2 := Lib.hid (And.intro hG (And.intro hL hcc))
        clear hG hL hcc
        go_upto_region 13 with fail
        go_cut [13] from 85 to 91 (fun s13 wx => s13 = .int .i64 G ∧ wx = w5)
        case first =>
          apply five z y
          all_goals intros
          all_goals go_wp2_with fail
          all_goals go_meet
          all_goals (case rel => (obtain ⟨n1, n2, n3, n4, n5⟩ := HN.out; obtain ⟨m1, m2, m3⟩ := HN2.out; exact ⟨by congr 1; omega, rfl⟩))
        case rest =>
          obtain ⟨rfl, rfl⟩ := hcut
          obtain ⟨m1, m2, m3⟩ := HN2.out
          by_cases hGa : G ≤ a2.toNat
          · obtain rfl : cc = true := by rw [← m3]; simpa using hGa
            have g1 : (G : Int) ≤ a2 := by omega
            have g2 : L = G := by omega
            subst g2
            clear m1 m2 m3 HN2
            go_wp2_with fail
            go_ret
            exact ⟨by simp, HB5.out⟩
          · obtain rfl : cc = false := by rw [← m3]; simpa using hGa
            have g1 : a2 < (G : Int) := by omega
            have g3 : ((L : Int) == a2) = true := by simp; omega
            clear m1 m2 m3 HN2
            go_wp2_with fail
            go_ret
            exact ⟨by simp; omega, HB5.out⟩
end Go.Proofs.Ytllkehdokgfafaa
