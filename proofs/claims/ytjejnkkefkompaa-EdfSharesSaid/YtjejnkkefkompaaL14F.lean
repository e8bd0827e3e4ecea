/-
  The walk of the statement EdfShares: it returns true.
-/
import Derived.Test.YtjejnkkefkompaaSrtN
import Derived.Test.YtjejnkkefkompaaEdP
namespace Go.Proofs.Ytjejnkkefkompaa
open Go Go.RowKit
set_option linter.unusedSimpArgs false
set_option linter.unusedVariables false

set_option maxRecDepth 100000 in
set_option maxHeartbeats 8000000 in
theorem shares14_law {W : World} {v : Value} {X : List Int} (k : Nat) (h : WV W v X) :
    Calls Try.prog 8 #[v, .int .u64 (k : Int)] W fun e W' => e = .returned (.bool true) ∧ Below W.heap.size W W' := by
  have HV := Lib.hid h
  have HI := Lib.hid (h.below (below_one W (.cells #[] 23)))
  obtain ⟨a, n, c, rfl, hi, _, _⟩ := h
  have hn := Lib.hid hi.1
  clear hi
  by_cases hbig : 400 < n
  · have d1 : decide (400 < (n : Int)) = true := decide_eq_true (by omega)
    go_enter Try.func8, Try.ntmps8
    go_wp2
    go_ret
    exact ⟨rfl, Below.refl _ _⟩
  have d1 : decide (400 < (n : Int)) = false := decide_eq_false (by omega)
  by_cases hz0 : n = 0
  · have d0 : ((n : Int) == 0) = true := by simp; omega
    go_enter Try.func8, Try.ntmps8
    go_wp2
    go_ret
    exact ⟨rfl, Below.refl _ _⟩
  have d0 : ((n : Int) == 0) = false := by simp; omega
  have HL := Lib.hid (show X.length ≤ 900 by rw [hn.out]; omega)
  have HGET := Lib.hid (show elt (X ++ [77]) n = (77 : Int) from by
    have := elt_last X 77
    rw [hn.out] at this
    exact this)
  have HO := Lib.hid (OwnW.made0 W)
  have HB := Lib.hid (below_one W (.cells #[] 23))
  go_enter Try.func8, Try.ntmps8
  go_wp2_with (at_builtin; refine Hid.out ?_)
  refine Lib.hid ?_
  refine wpList_appUN rfl _ _ rfl rfl HO.out rfl HI.out (by have := HL.out; simp; omega) (by simp) ?_
  intro v1 w1 ho1 hg1 _
  rw [List.nil_append] at ho1
  have hb1 := below_appU HB.out HO.out (Nat.le_refl _) hg1
  have HB1 := Lib.hid (hb1.trans ((below_one w1 (.cells #[.int .u64 77] 23)).mono hb1.size))
  have HO1 := Lib.hid (ho1.alloc (.cells #[.int .u64 77] 23))
  have HN : Hid (WV (w1.alloc (.cells #[.int .u64 77] 23)) (.slice (some ⟨w1.heap.size, 0, none⟩) 1 1) [77]) := Lib.hid ((OwnW.lit w1 w1.heap.size [77] (Nat.le_refl _) (by unfold maxLen; simp)).wv)
  clear ho1 hg1 hb1 HO HB HI
  go_wp2_with (at_builtin; refine Hid.out ?_)
  refine Lib.hid ?_
  refine wpList_appUN rfl _ _ rfl rfl HO1.out rfl HN.out (by have := HL.out; simp; omega) HB1.out.size ?_
  intro v2 w2 ho2 hg2 _
  have hb2 := below_appU HB1.out HO1.out (Nat.le_refl _) hg2
  obtain ⟨g, c2, rfl, hg, hr⟩ := ho2.row (by simp)
  have hlen : (X ++ [77]).length = n + 1 := by simp [hn.out]
  rw [hlen] at hr
  rw [hlen]
  have HR := Lib.hid hr
  have HB2 := Lib.hid hb2
  have hgl := hr.lt
  have hc2 : n + 1 ≤ c2 := hr.le
  have hc20 : n ≤ c2 := by omega
  have HXW := Lib.hid (show WV w2 (.slice (some ⟨g, 0, none⟩) n c2) X by
    have := WV.init hr.inW hr.le
    rw [List.dropLast_concat] at this
    exact this)
  clear ho2 hg2 hr HO1 HB1 HN hlen hb2
  go_wp2_with fail
  (with_reducible refine (epush_any (k : Int) HXW.out HL.out).mono ?_)
  rintro e w3 ⟨v6, rfl, hn6⟩
  have hb3 := hn6.b
  obtain ⟨g6, n6, c6, rfl, hg6, hr6, _⟩ := hn6
  have hl6 : n6 = n + 1 := by rw [← hr6.len, pushE_len, hn.out]
  have hn6l : n6 ≤ 1000 := by omega
  have HL6 := Lib.hid hl6
  clear hl6
  have HR6 := Lib.hid hr6
  have hg6l := hr6.lt
  have HX3 := Lib.hid (HXW.out.below hb3)
  have HB3 := Lib.hid hb3
  clear hb3 hr6
  go_wp2_with fail
  (with_reducible refine (epop_any HX3.out (by rw [hn.out]; omega) HL.out).mono ?_)
  rintro e w4 ⟨v8, rfl, hn8⟩
  have hb4 := hn8.b
  obtain ⟨g8, n8, c8, rfl, hg8, hr8, _⟩ := hn8
  have hn8l : n8 ≤ 1000 := by rw [← hr8.len, popE_len, hn.out]; omega
  have HR8 := Lib.hid hr8
  have hg8l := hr8.lt
  have HX4 := Lib.hid (HX3.out.below hb4)
  have HB4 := Lib.hid hb4
  clear hb4 hr8
  go_wp2_with fail
  (with_reducible refine (esorted_any HX4.out HL.out).mono ?_)
  rintro e w5 ⟨v10, rfl, hna⟩
  have hb5 := hna.b
  obtain ⟨ga, na, ca, rfl, hga, hra, _⟩ := hna
  have hnal : na ≤ 1000 := by rw [← hra.len, srtE_len, hn.out]; omega
  have HRa := Lib.hid hra
  have hgal := hra.lt
  have HB5 := Lib.hid hb5
  clear hb5 hra
  have s23 := HB3.out.size
  have s34 := HB4.out.size
  have s45 := HB5.out.size
  have HB25 := Lib.hid (HB3.out.trans ((HB4.out.trans (HB5.out.mono HB4.out.size)).mono HB3.out.size))
  have HR65 := Lib.hid ((HR6.out.of_same (HB4.out.block g6 (by omega))).of_same (HB5.out.block g6 (by omega)))
  have HR85 := Lib.hid (HR8.out.of_same (HB5.out.block g8 (by omega)))
  have HRX5 := Lib.hid (HR.out.of_same (HB25.out.block g hgl))
  clear HR6 HR8 HX3 HX4 HB3 HB4 HB5 HXW HR
  have o1 := below_one w5 (.cells #[.slice (some ⟨g6, 0, none⟩) n6 c6, .slice (some ⟨g8, 0, none⟩) n8 c8, .slice (some ⟨ga, 0, none⟩) na ca] 22)
  have HR66 := Lib.hid (HR65.out.of_same (o1.block g6 (by omega)))
  have HR86 := Lib.hid (HR85.out.of_same (o1.block g8 (by omega)))
  have HRa6 := Lib.hid (HRa.out.of_same (o1.block ga (by omega)))
  have HRX6 := Lib.hid (HRX5.out.of_same (o1.block g (by omega)))
  have HB26 := Lib.hid (HB2.out.trans ((HB25.out.trans (o1.mono HB25.out.size)).mono HB2.out.size))
  clear o1 HR65 HR85 HRa HRX5 HB25
  go_wp2_with fail
  have hq0 : (w5.alloc (.cells #[.slice (some ⟨g6, 0, none⟩) n6 c6, .slice (some ⟨g8, 0, none⟩) n8 c8, .slice (some ⟨ga, 0, none⟩) na ca] 22)).cell? ⟨w5.heap.size, 0, none⟩ = some (.slice (some ⟨g6, 0, none⟩) n6 c6) := by go_simp
  have hq1 : (w5.alloc (.cells #[.slice (some ⟨g6, 0, none⟩) n6 c6, .slice (some ⟨g8, 0, none⟩) n8 c8, .slice (some ⟨ga, 0, none⟩) na ca] 22)).cell? ⟨w5.heap.size, 1, none⟩ = some (.slice (some ⟨g8, 0, none⟩) n8 c8) := by go_simp
  have hq2 : (w5.alloc (.cells #[.slice (some ⟨g6, 0, none⟩) n6 c6, .slice (some ⟨g8, 0, none⟩) n8 c8, .slice (some ⟨ga, 0, none⟩) na ca] 22)).cell? ⟨w5.heap.size, 2, none⟩ = some (.slice (some ⟨ga, 0, none⟩) na ca) := by go_simp
  have HQ6 := Lib.hid (And.intro hq0 (And.intro hq1 hq2))
  have hqs : (w5.alloc (.cells #[.slice (some ⟨g6, 0, none⟩) n6 c6, .slice (some ⟨g8, 0, none⟩) n8 c8, .slice (some ⟨ga, 0, none⟩) na ca] 22)).heap.size = w5.heap.size + 1 := by simp
  clear hq0 hq1 hq2
  generalize w5.alloc (.cells #[.slice (some ⟨g6, 0, none⟩) n6 c6, .slice (some ⟨g8, 0, none⟩) n8 c8, .slice (some ⟨ga, 0, none⟩) na ca] 22) = w6 at *
  obtain ⟨q, hq⟩ : ∃ q, w5.heap.size = q := ⟨_, rfl⟩
  rw [hq] at HQ6
  rw [hq]
  have hw2g : W.heap.size ≤ g := hg
  go_loopw [52] (fun u wr => ∃ (i : Nat) (Y6 Y8 Ya : List Int), u = .int .i64 i ∧ i ≤ 3 ∧ Row wr g6 n6 c6 Y6 ∧ Row wr g8 n8 c8 Y8 ∧ Row wr ga na ca Ya ∧ Fr [g6, g8, ga] w6 wr) (fun u _ => 3 - (intOf u).toNat)
  case atStart => exact ⟨0, _, _, _, rfl, by omega, HR66.out, HR86.out, HRa6.out, Fr.refl _ _⟩
  case round =>
    obtain ⟨i, Y6, Y8, Ya, rfl, hi3, h6, h8, ha, hf⟩ := hrel
    have HR6 := Lib.hid h6
    have HR8 := Lib.hid h8
    have HRa := Lib.hid ha
    have HF := Lib.hid hf
    have hqb : wr.heap[q]? = w6.heap[q]? := hf.block q (by omega) (by simp; omega)
    have HQ := Lib.hid (show wr.cell? ⟨q, 0, none⟩ = some (.slice (some ⟨g6, 0, none⟩) n6 c6) ∧ wr.cell? ⟨q, 1, none⟩ = some (.slice (some ⟨g8, 0, none⟩) n8 c8) ∧ wr.cell? ⟨q, 2, none⟩ = some (.slice (some ⟨ga, 0, none⟩) na ca) from
      ⟨(World.cell?_of_block hqb).trans HQ6.out.1, (World.cell?_of_block hqb).trans HQ6.out.2.1, (World.cell?_of_block hqb).trans HQ6.out.2.2⟩)
    clear h6 h8 ha hf hqb
    have hi4 : i = 0 ∨ i = 1 ∨ i = 2 ∨ i = 3 := by omega
    rcases hi4 with rfl | rfl | rfl | rfl
    · have cq : wr.cell? ⟨q, 0, none⟩ = some (.slice (some ⟨g6, 0, none⟩) n6 c6) := HQ.out.1
      go_wp2_with fail
      go_loopw [13] (fun u wq => ∃ (j : Nat) (Y : List Int), u = .int .i64 j ∧ j ≤ n6 ∧ Row wq g6 n6 c6 Y ∧ Fr [g6] wr wq) (fun u _ => n6 - (intOf u).toNat)
      case atStart => exact ⟨0, Y6, rfl, by omega, HR6.out, Fr.refl _ _⟩
      case round =>
        obtain ⟨j, Y, rfl, hj, hy, hfy⟩ := hrel
        have HY := Lib.hid hy
        have HFY := Lib.hid hfy
        clear hy hfy cq
        by_cases hjn : j < n6
        · have dj : decide ((j : Int) < (n6 : Int)) = true := decide_eq_true (by omega)
          have hjI : (j : Int) ≤ 1000 := by omega
          have c1 := HY.out.cell hjn
          have f1 := HY.out.free j
          obtain ⟨z, hz⟩ : ∃ z, Y.getD j 0 = z := ⟨_, rfl⟩
          rw [hz] at c1
          clear hz
          go_wp2_with fail
          go_roundw
          case rel => exact ⟨j + 1, _, by go_num, by omega, HY.out.put _, HFY.out.setCell (p := ⟨g6, j, none⟩) (.inl (List.mem_singleton.2 rfl)) _⟩
          case measure => simp [intOf] <;> omega
        · have dj : decide ((j : Int) < (n6 : Int)) = false := decide_eq_false (by omega)
          have h8 := HR8.out.of_same (HFY.out.block g8 HR8.out.lt (by simp only [List.mem_singleton]; omega))
          have K8 := Lib.hid h8
          clear h8
          have ha := HRa.out.of_same (HFY.out.block ga HRa.out.lt (by simp only [List.mem_singleton]; omega))
          have Ka := Lib.hid ha
          clear ha
          have HFN := Lib.hid (HF.out.trans (HFY.out.mono (T := [g6, g8, ga]) (fun x hx => by simp only [List.mem_singleton] at hx; subst hx; simp)))
          go_wp2_with fail
          go_roundw
          case rel => exact ⟨1, _, _, _, by go_num, by omega, HY.out, K8.out, Ka.out, HFN.out⟩
          case measure => simp [intOf] <;> omega
    · have cq : wr.cell? ⟨q, 1, none⟩ = some (.slice (some ⟨g8, 0, none⟩) n8 c8) := HQ.out.2.1
      go_wp2_with fail
      go_loopw [13] (fun u wq => ∃ (j : Nat) (Y : List Int), u = .int .i64 j ∧ j ≤ n8 ∧ Row wq g8 n8 c8 Y ∧ Fr [g8] wr wq) (fun u _ => n8 - (intOf u).toNat)
      case atStart => exact ⟨0, Y8, rfl, by omega, HR8.out, Fr.refl _ _⟩
      case round =>
        obtain ⟨j, Y, rfl, hj, hy, hfy⟩ := hrel
        have HY := Lib.hid hy
        have HFY := Lib.hid hfy
        clear hy hfy cq
        by_cases hjn : j < n8
        · have dj : decide ((j : Int) < (n8 : Int)) = true := decide_eq_true (by omega)
          have hjI : (j : Int) ≤ 1000 := by omega
          have c1 := HY.out.cell hjn
          have f1 := HY.out.free j
          obtain ⟨z, hz⟩ : ∃ z, Y.getD j 0 = z := ⟨_, rfl⟩
          rw [hz] at c1
          clear hz
          go_wp2_with fail
          go_roundw
          case rel => exact ⟨j + 1, _, by go_num, by omega, HY.out.put _, HFY.out.setCell (p := ⟨g8, j, none⟩) (.inl (List.mem_singleton.2 rfl)) _⟩
          case measure => simp [intOf] <;> omega
        · have dj : decide ((j : Int) < (n8 : Int)) = false := decide_eq_false (by omega)
          have h6 := HR6.out.of_same (HFY.out.block g6 HR6.out.lt (by simp only [List.mem_singleton]; omega))
          have K6 := Lib.hid h6
          clear h6
          have ha := HRa.out.of_same (HFY.out.block ga HRa.out.lt (by simp only [List.mem_singleton]; omega))
          have Ka := Lib.hid ha
          clear ha
          have HFN := Lib.hid (HF.out.trans (HFY.out.mono (T := [g6, g8, ga]) (fun x hx => by simp only [List.mem_singleton] at hx; subst hx; simp)))
          go_wp2_with fail
          go_roundw
          case rel => exact ⟨2, _, _, _, by go_num, by omega, K6.out, HY.out, Ka.out, HFN.out⟩
          case measure => simp [intOf] <;> omega
    · have cq : wr.cell? ⟨q, 2, none⟩ = some (.slice (some ⟨ga, 0, none⟩) na ca) := HQ.out.2.2
      go_wp2_with fail
      go_loopw [13] (fun u wq => ∃ (j : Nat) (Y : List Int), u = .int .i64 j ∧ j ≤ na ∧ Row wq ga na ca Y ∧ Fr [ga] wr wq) (fun u _ => na - (intOf u).toNat)
      case atStart => exact ⟨0, Ya, rfl, by omega, HRa.out, Fr.refl _ _⟩
      case round =>
        obtain ⟨j, Y, rfl, hj, hy, hfy⟩ := hrel
        have HY := Lib.hid hy
        have HFY := Lib.hid hfy
        clear hy hfy cq
        by_cases hjn : j < na
        · have dj : decide ((j : Int) < (na : Int)) = true := decide_eq_true (by omega)
          have hjI : (j : Int) ≤ 1000 := by omega
          have c1 := HY.out.cell hjn
          have f1 := HY.out.free j
          obtain ⟨z, hz⟩ : ∃ z, Y.getD j 0 = z := ⟨_, rfl⟩
          rw [hz] at c1
          clear hz
          go_wp2_with fail
          go_roundw
          case rel => exact ⟨j + 1, _, by go_num, by omega, HY.out.put _, HFY.out.setCell (p := ⟨ga, j, none⟩) (.inl (List.mem_singleton.2 rfl)) _⟩
          case measure => simp [intOf] <;> omega
        · have dj : decide ((j : Int) < (na : Int)) = false := decide_eq_false (by omega)
          have h6 := HR6.out.of_same (HFY.out.block g6 HR6.out.lt (by simp only [List.mem_singleton]; omega))
          have K6 := Lib.hid h6
          clear h6
          have h8 := HR8.out.of_same (HFY.out.block g8 HR8.out.lt (by simp only [List.mem_singleton]; omega))
          have K8 := Lib.hid h8
          clear h8
          have HFN := Lib.hid (HF.out.trans (HFY.out.mono (T := [g6, g8, ga]) (fun x hx => by simp only [List.mem_singleton] at hx; subst hx; simp)))
          go_wp2_with fail
          go_roundw
          case rel => exact ⟨3, _, _, _, by go_num, by omega, K6.out, K8.out, HY.out, HFN.out⟩
          case measure => simp [intOf] <;> omega
    · have HBr := Lib.hid (below_of_fr HB26.out HF.out (fun x hx => by
        simp only [List.mem_cons, List.not_mem_nil, or_false] at hx
        have := HB2.out.size
        rcases hx with rfl | rfl | rfl <;> omega))
      have HRX := Lib.hid (HRX6.out.of_same (HF.out.block g (by omega) (by simp; omega)))
      have HXV := Lib.hid (show WV wr (.slice (some ⟨g, 0, none⟩) n c2) X by
        have := WV.init HRX.out.inW HRX.out.le
        rw [List.dropLast_concat] at this
        exact this)
      have HVr := Lib.hid (HV.out.below HBr.out)
      clear HR6 HR8 HRa HF HQ HR66 HR86 HRa6 HQ6
      go_wp2_with fail
      (with_reducible refine (awake14_any _).mono ?_)
      rintro e w7 ⟨rfl, b7⟩
      have HV7 := Lib.hid (HVr.out.below b7)
      have HX7 := Lib.hid (HXV.out.below b7)
      have HR7 := Lib.hid (HRX.out.of_same (b7.block g HRX.out.lt))
      have HB7 := Lib.hid (HBr.out.trans (b7.mono HBr.out.size))
      clear b7 HVr HXV HRX HBr
      go_wp2_with fail
      (with_reducible refine (wsamev_any HX7.out HV7.out).mono ?_)
      rintro e w8 ⟨rfl, b8⟩
      have hr8' := HR7.out.of_same (b8.block g HR7.out.lt)
      have c8' := row_elt hr8' (i := n) (by omega)
      rw [HGET.out] at c8'
      have e6 : (n6 : Int) = (n : Int) + 1 := by have := HL6.out; omega
      have HB8 := Lib.hid (HB7.out.trans (b8.mono HB7.out.size))
      clear b8 hr8'
      go_wp2
      go_ret
      exact ⟨rfl, HB8.out⟩
end Go.Proofs.Ytjejnkkefkompaa
