/-
  Stage 14: few, Same of slices that read as words, awake.
-/
import Derived.Test.YtjejnkkefkompaaEdR
namespace Go.Proofs.Ytjejnkkefkompaa
open Go Go.RowKit
set_option linter.unusedSimpArgs false
set_option linter.unusedVariables false

set_option maxRecDepth 100000 in
set_option maxHeartbeats 1000000 in
theorem wsamev_any {w : World} {v v' : Value} {X : List Int} (h : WV w v X) (h' : WV w v' X) :
    Calls Try.prog 10 #[v, v'] w fun e w' => e = .returned (.bool true) ∧ Below w.heap.size w w' := by
  obtain ⟨a, n, c, rfl, hi, _, _⟩ := h
  obtain ⟨a', n', c', rfl, hi', _, _⟩ := h'
  obtain rfl : n = n' := hi.1.symm.trans hi'.1
  have hmax : n ≤ 9223372036854775807 := by have := hi.2.1; unfold maxLen at this; omega
  have H := Lib.hid hi
  have H' := Lib.hid hi'
  clear hi hi'
  go_enter Try.func10, Try.ntmps10
  go_wp2_with fail
  go_loopw [5] (fun i wr => ∃ (j d : Nat), j ≤ n ∧ i = .int .i64 j ∧ wr = w.drewN d) (fun i _ => n - (intOf i).toNat)
  case atStart => exact ⟨0, 0, by omega, rfl, rfl⟩
  case round =>
    obtain ⟨j, d, hj, rfl, rfl⟩ := hrel
    by_cases hlt : j < n
    · obtain ⟨x, rfl, _, hx⟩ := H.out.2.2 j hlt
      obtain ⟨x', rfl, _, hy⟩ := H'.out.2.2 j hlt
      have hx2 : w.cell? (x.add j) = some (.int .u64 (elt X j)) := hx
      have hy2 : w.cell? (x'.add j) = some (.int .u64 (elt X j)) := hy
      clear hx hy
      generalize elt X j = u at hx2 hy2
      go_wp2_with fail
      go_quiet (fail)
      go_wp2_with fail
      go_roundw
      case rel => exact ⟨j + 1, _, by omega, by go_num, rfl⟩
      case measure => simp [intOf]; omega
    · obtain rfl : j = n := by omega
      go_wp2
      go_ret
      exact ⟨rfl, below_drewN _ _⟩

/-- Keys reduced. -/
def fewE (X : List Int) : List Int := X.map (· % 8)
theorem fewE_len (X : List Int) : (fewE X).length = X.length := List.length_map _
theorem fewE_take {X : List Int} {j : Nat} (hj : j < X.length) : fewE (X.take j) ++ [elt X j % 8] = fewE (X.take (j + 1)) := by
  unfold fewE elt
  rw [List.take_succ_eq_append_getElem hj, List.map_append, List.getD_eq_getElem?_getD, List.getElem?_eq_getElem hj]
  rfl
set_option maxRecDepth 100000 in
set_option maxHeartbeats 2000000 in
theorem few_any {w : World} {v : Value} {X : List Int} (h : WV w v X) (hl : X.length ≤ 900) (h0 : ∀ x ∈ X, 0 ≤ x) :
    Calls Try.prog 13 #[v] w fun e w' => ∃ v', e = .returned v' ∧ WV w' v' (fewE X) ∧ Below w.heap.size w w' := by
  obtain ⟨a, n, c, rfl, hi, _, _⟩ := h
  have hn := hi.1
  have HN := Lib.hid hn
  rw [hn] at hl
  have H := Lib.hid hi
  have H0 := Lib.hid h0
  clear hi h0 hn
  go_enter Try.func13, Try.ntmps13
  go_wp2_with fail
  go_loopw [3, 4] (fun v i wr => ∃ j : Nat, j ≤ n ∧ i = .int .i64 j ∧ OwnW wr w.heap.size v (fewE (X.take j)) ∧ Below w.heap.size w wr) (fun _ i _ => n - (intOf i).toNat)
  case atStart => exact ⟨0, by omega, rfl, OwnW.nil w _, Below.refl _ _⟩
  case round =>
    obtain ⟨j, hj, rfl, ho, hb⟩ := hrel
    have HB := Lib.hid hb
    have HO := Lib.hid ho
    clear ho
    by_cases hlt : j < n
    · obtain ⟨x, rfl, hxb, hx⟩ := H.out.2.2 j hlt
      have hx2 : wr.cell? (x.add j) = some (.int .u64 (elt X j)) := (hb.cell (by rw [block_add]; exact hxb)).trans hx
      have hge : 0 ≤ elt X j := H0.out _ (elt_mem (by rw [HN.out]; exact hlt))
      have HE := Lib.hid (fewE_take (X := X) (j := j) (by rw [HN.out]; exact hlt))
      have HL := Lib.hid (show (fewE (X.take j)).length ≤ 1000 by rw [fewE_len, List.length_take]; omega)
      clear hx hb
      generalize elt X j = u at *
      have m1 : Int.tmod u 8 = u % 8 := Int.tmod_eq_emod_of_nonneg hge
      have m2 : IntKind.u64.wrap (u % 8) = u % 8 := IntWalk.u64_in _ (by omega)
      go_wp2_with (at_builtin; refine Hid.out ?_)
      refine Lib.hid ?_
      have HN1 := Lib.hid ((OwnW.lit wr wr.heap.size [u % 8] (Nat.le_refl _) (by unfold maxLen; simp)).wv)
      have HO1 := Lib.hid (HO.out.alloc (.cells #[.int .u64 (u % 8)] 23))
      have HB1 := Lib.hid (HB.out.trans ((below_one wr (.cells #[.int .u64 (u % 8)] 23)).mono HB.out.size))
      refine wpList_appUN rfl _ _ rfl rfl HO1.out rfl HN1.out (by have := HL.out; simp; omega) HB1.out.size ?_
      intro v2 w2 ho2 hg2 _
      have HB2 := Lib.hid (below_appU HB1.out HO1.out (Nat.le_refl _) hg2)
      rw [HE.out] at ho2
      have HO2 := Lib.hid ho2
      clear hg2 ho2 HB1 HO1 HN1 HB HO
      go_wp2_with fail
      go_roundw
      case rel => exact ⟨j + 1, by omega, by go_num, HO2.out, HB2.out⟩
      case measure => simp [intOf]; omega
    · obtain rfl : j = n := by omega
      have e1 : X.take j = X := List.take_of_length_le (by rw [HN.out]; omega)
      have h2 := HO.out
      rw [e1] at h2
      have HO2 := Lib.hid h2
      clear HO h2 e1
      go_wp2
      go_ret
      exact ⟨_, rfl, HO2.out.wv, HB.out⟩

theorem aw14 : pushE [] 5 = [5] ∧ pushE [5] 3 = [3, 5] ∧ pushE [3, 5] 4 = [3, 5, 4] ∧ pushE [3, 5, 4] 1 = [1, 3, 4, 5] ∧ popE [1, 3, 4, 5] = [3, 5, 4] ∧ elt [1, 3, 4, 5] 0 = 1 := by decide +kernel
/-- The keys of the example. -/
def awK (j : Nat) : List Int := (([5, 3, 4, 1] : List Int).take j).foldl pushE []
theorem awK_next {j : Nat} (hj : j < 4) : pushE (awK j) (elt [5, 3, 4, 1] j) = awK (j + 1) ∧ (awK j).length ≤ 4 := by
  obtain ⟨h1, h2, h3, h4, _⟩ := aw14
  match j, hj with
  | 0, _ => exact ⟨rfl, by decide⟩
  | 1, _ => exact ⟨rfl, by show (pushE [] 5).length ≤ 4; rw [h1]; decide⟩
  | 2, _ => exact ⟨rfl, by show (pushE (pushE [] 5) 3).length ≤ 4; rw [h1, h2]; decide⟩
  | 3, _ => exact ⟨rfl, by show (pushE (pushE (pushE [] 5) 3) 4).length ≤ 4; rw [h1, h2, h3]; decide⟩
theorem awK_all : awK 4 = [1, 3, 4, 5] := by
  obtain ⟨h1, h2, h3, h4, _⟩ := aw14
  show pushE (pushE (pushE (pushE [] 5) 3) 4) 1 = _
  rw [h1, h2, h3, h4]
set_option maxRecDepth 100000 in
set_option maxHeartbeats 2000000 in
theorem awake14_any (w : World) : Calls Try.prog 9 #[] w fun e w' => e = .returned (.bool true) ∧ Below w.heap.size w w' := by
  have HR := Lib.hid ((OwnW.lit w w.heap.size [5, 3, 4, 1] (Nat.le_refl _) (by unfold maxLen; simp)).row (by decide))
  have HB := Lib.hid (below_one w (.cells #[.int .u64 5, .int .u64 3, .int .u64 4, .int .u64 1] 23))
  go_enter Try.func9, Try.ntmps9
  go_wp2_with fail
  go_loopw [1, 9] (fun v i wr => ∃ j : Nat, j ≤ 4 ∧ i = .int .i64 j ∧ WV wr v (awK j) ∧ Below w.heap.size w wr ∧ Row wr w.heap.size 4 4 [5, 3, 4, 1]) (fun _ i _ => 4 - (intOf i).toNat)
  case atStart =>
    obtain ⟨g, c, e, _, hr⟩ := HR.out
    cases e
    exact ⟨0, by omega, rfl, WV.nil _, HB.out, hr⟩
  case round =>
    obtain ⟨j, hj, rfl, ho, hb, hr⟩ := hrel
    have HV := Lib.hid ho
    have HBB := Lib.hid hb
    have HRR := Lib.hid hr
    clear ho hb hr HR HB
    by_cases hlt : j < 4
    · have c1 := row_elt HRR.out hlt
      have HE := Lib.hid (awK_next hlt)
      have HK := Lib.hid (show ∃ k, elt [5, 3, 4, 1] j = k from ⟨_, rfl⟩)
      generalize elt [5, 3, 4, 1] j = k at *
      go_wp2_with fail
      (with_reducible refine (epush_any k HV.out (by have := HE.out.2; omega)).mono ?_)
      rintro e w2 ⟨v2, rfl, hn⟩
      rw [HE.out.1] at hn
      have HN := Lib.hid hn
      clear hn
      go_wp2_with fail
      go_roundw
      case rel => exact ⟨j + 1, by omega, by go_num, HN.out.wv, HBB.out.trans (HN.out.b.mono HBB.out.size), HRR.out.of_same (HN.out.b.block _ HRR.out.lt)⟩
      case measure => simp [intOf]; omega
    · obtain rfl : j = 4 := by omega
      have hv := HV.out
      rw [awK_all] at hv
      have HV4 := Lib.hid hv
      have hP := aw14.2.2.2.2
      have HP := Lib.hid hP
      clear HV hv HRR hP
      go_wp2_with fail
      (with_reducible refine (epop_any HV4.out (by decide) (by decide)).mono ?_)
      rintro e w2 ⟨v2, rfl, hn⟩
      rw [HP.out.1] at hn
      rw [HP.out.2]
      have HN := Lib.hid hn
      have HV5 := Lib.hid (HV4.out.below hn.b)
      have HB5 := Lib.hid (HBB.out.trans (hn.b.mono HBB.out.size))
      clear hn HV4 HBB
      go_wp2_with fail
      have HL1 := Lib.hid (show WV (w2.alloc (.cells #[.int .u64 1, .int .u64 3, .int .u64 4, .int .u64 5] 23)) (.slice (some ⟨w2.heap.size, 0, none⟩) 4 4) [1, 3, 4, 5] from (OwnW.lit w2 w2.heap.size [1, 3, 4, 5] (Nat.le_refl _) (by unfold maxLen; simp)).wv)
      have hb6 := below_one w2 (.cells #[.int .u64 1, .int .u64 3, .int .u64 4, .int .u64 5] 23)
      have HB6 := Lib.hid hb6
      (with_reducible refine (wsamev_any (HV5.out.below hb6) HL1.out).mono ?_)
      rintro e w3 ⟨rfl, hb3⟩
      have HB7 := Lib.hid (HB6.out.trans (hb3.mono HB6.out.size))
      clear hb3 hb6
      go_wp2_with fail
      have HL2 := Lib.hid (show WV (w3.alloc (.cells #[.int .u64 3, .int .u64 5, .int .u64 4] 23)) (.slice (some ⟨w3.heap.size, 0, none⟩) 3 3) [3, 5, 4] from (OwnW.lit w3 w3.heap.size [3, 5, 4] (Nat.le_refl _) (by unfold maxLen; simp)).wv)
      have hb8 := below_one w3 (.cells #[.int .u64 3, .int .u64 5, .int .u64 4] 23)
      (with_reducible refine (wsamev_any ((HN.out.wv.below HB7.out).below hb8) HL2.out).mono ?_)
      rintro e w4 ⟨rfl, hb4⟩
      have HB8 := Lib.hid (HB5.out.trans ((HB7.out.trans ((hb8.trans (hb4.mono hb8.size)).mono HB7.out.size)).mono HB5.out.size))
      go_wp2
      go_ret
      exact ⟨rfl, HB8.out⟩
end Go.Proofs.Ytjejnkkefkompaa
