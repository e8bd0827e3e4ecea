/-
  Stage 11: the plan of a law, whole. (Written by wip/gen_pln.py.)
-/
import Derived.Test.YtjehiekmlbeaeaaGreatMgBA
import Derived.Deep.Cut
import Derived.Deep.CutRange
namespace Go.Proofs.YtjehiekmlbeaeaaGreat
open Go Go.RowKit Go.Shelf
set_option linter.unusedSimpArgs false
set_option linter.unusedVariables false

set_option maxRecDepth 100000 in
set_option maxHeartbeats 8000000 in
theorem plan_any {w : World} {a : Option Addr} {L c n : Nat} {zs : List Int} (h : InInts w a L zs) (hL : L ≤ 400) (hn : n ≤ 100) :
    Calls Tryz.prog 24 #[.slice a L c, .int .i64 n] w fun e w' => ∃ ob K P V cnt, e = .returned (.slice (some ⟨ob, 0, none⟩) K K) ∧ PO w w' ob K P V ∧ PlnOk cnt P ∧ 2 ≤ K ∧ K ≤ 4 ∧ cnt ≤ n := by
  have HO := Lib.hid h
  clear h
  go_enter Tryz.func24, Tryz.ntmps24
  go_wp2_with fail
  refine (keepnum_any HO.out c 0 (by omega) 3 (by omega) (by omega)).mono ?_
  rintro e w1 ⟨y, hy, rfl, m1, rfl⟩
  have hy0 : (0 : Int) ≤ y := by omega
  have hyn : (y : Int) < 3 := hy
  have HB := Lib.hid (below_drewN w m1)
  generalize w.drewN m1 = W1 at *
  obtain ⟨K, hK⟩ : ∃ K, 2 + y = K := ⟨_, rfl⟩
  have hyk : (2 : Int) + (y : Int) = (K : Int) := by omega
  have hwr : IntKind.i64.wrap (K : Int) = (K : Int) := by rw [IntKind.wrap_i64]; omega
  have hmk := make_plan W1 K (by omega)
  have HPO := Lib.hid (PO.made HB.out K)
  have HKK := Lib.hid (show 2 ≤ K ∧ K ≤ 4 by omega)
  generalize W1.alloc (.cells (madeCells #[.slice none 0 0] K) 136) = W2 at *
  generalize W1.heap.size = ob at *
  go_wp2_with fail
  go_loopw [6] (fun x wr => ∃ (i : Nat) (P : List (List ActR)) (V : List Value), x = .int .i64 i ∧ 1 ≤ i ∧ i ≤ n + 1 ∧ PO w wr ob K P V ∧ PlnOk (i - 1) P) (fun x _ => n + 1 - (intOf x).toNat)
  case atStart => exact ⟨1, _, _, rfl, by omega, by omega, HPO.out, plnok0 K⟩
  case round =>
    obtain ⟨i, P, V, rfl, hi1, hin, hpo, hok⟩ := hrel
    have HP := Lib.hid hpo
    have HOK := Lib.hid hok
    clear hpo hok HPO
    have hex : (∃ e w'', e = Ending.returned (.slice (some ⟨ob, 0, none⟩) K K) ∧ w'' = wr) := ⟨_, _, rfl, rfl⟩
    clear hex
    have HR := Lib.hid (show PO w wr ob K P V ∧ PlnOk (i - 1) P ∧ 2 ≤ K ∧ K ≤ 4 ∧ i - 1 ≤ n from ⟨HP.out, HOK.out, HKK.out.1, HKK.out.2, by omega⟩)
    by_cases hl : i < L
    case neg =>
      have hf : decide ((i : Int) < (L : Int)) = false := by simp; omega
      go_wp2_with fail
      go_ret
      exact ⟨ob, K, P, V, _, rfl, HR.out⟩
    by_cases hle : i ≤ n
    case neg =>
      have hf : decide ((i : Int) < (L : Int)) = true := by simp; omega
      have hf2 : decide ((i : Int) ≤ (n : Int)) = false := by simp; omega
      go_wp2_with fail
      go_ret
      exact ⟨ob, K, P, V, _, rfl, HR.out⟩
    clear HR
    have hf : decide ((i : Int) < (L : Int)) = true := by simp; omega
    have hf2 : decide ((i : Int) ≤ (n : Int)) = true := by simp; omega
    have hwk : IntKind.i64.wrap ((K : Int) + 2) = (K : Int) + 2 := by rw [IntKind.wrap_i64]; omega
    go_wp2_with fail
    refine (keepnum_any (HO.out.below HP.out.b) c i (by omega) ((K : Int) + 2) (by omega) (by omega)).mono ?_
    rintro e w3 ⟨s, hs, rfl, m2, rfl⟩
    have HP3 := Lib.hid (HP.out.below (below_drewN wr m2))
    generalize wr.drewN m2 = W3 at *
    clear HP
    have hs0 : (0 : Int) ≤ s := by omega
    by_cases hsk : 0 < s ∧ s < K
    case pos =>
      have hf3 : decide ((0 : Int) < (s : Int)) = true := by simp; omega
      have hf4 : decide ((s : Int) < (K : Int)) = true := by simp; omega
      have hs1 : 0 < (s : Int) := by omega
      have hs2 : (s : Int) < (K : Int) := by omega
      obtain ⟨va, vc, hva, hvc⟩ := (HP3.out.own s hsk.2).form
      obtain ⟨N, hN⟩ : ∃ N, ((P.getD s []).map actL).length = N := ⟨_, rfl⟩
      rw [hN] at hva hvc
      have HN := Lib.hid hN
      have cs := HP3.out.cell hsk.2
      rw [hva] at cs
      have HVA := Lib.hid hva
      have HS := Lib.hid hsk
      have hbs := fun (W : World) => Blk.made W 138 #[.int .i64 2, .int .i64 0]
      have HOW := Lib.hid (show OwnG W3 w.heap.size 138 2 (.slice va N vc) ((P.getD s []).map actL) from hva ▸ HP3.out.own s hsk.2)
      have HLN := Lib.hid (show ((P.getD s []).map actL).length + 1 ≤ 1000000 by rw [List.length_map]; have := HOK.out.le (s := s) (by rw [HP3.out.lp]; exact hsk.2); omega)
      clear hN hva hsk hs hvc
      go_wp2_with (refine wpList_appG info_act rfl (by omega) (by omega) Tryz.underlying136 rfl (.tmp 56) (.tmp 58) rfl rfl (HOW.out.below (below_one _ _)) rfl (actL_ok ⟨2, 0⟩) (made_row1 (hbs _)) HLN.out (Nat.le_trans HP3.out.b.size (below_one _ _).size) ?_; intro v' w' hown hgr hv'; have hq1 := ((HP3.out.below (below_one _ _)).grown HS.out.2 HVA.out hgr).1; have hq2 := ((HP3.out.below (below_one _ _)).grown HS.out.2 HVA.out hgr).2; have HPN := Lib.hid ((HP3.out.below (below_one _ _)).next (a := ⟨2, 0⟩) HS.out.2 (HVA.out.symm ▸ hgr) hown (HVA.out.symm ▸ hv')); obtain ⟨fa, fl, fc, he⟩ : ∃ a l c, v' = .slice a l c := (by obtain ⟨a, c, e, _⟩ := hown.form; exact ⟨a, _, c, e⟩); subst he; clear hown hgr hv')
      go_roundw
      case rel => exact ⟨i + 1, _, _, by rfl, by omega, by omega, HPN.out, by
        have := set_ok (a := ⟨2, 0⟩) HOK.out (by rw [HP3.out.lp]; exact HS.out.2) (by unfold canR; rw [if_neg (by have := HS.out.1; omega)]; rfl) ⟨by decide, by decide⟩
        rw [show i + 1 - 1 = i - 1 + 1 by omega]
        exact this⟩
      case measure => simp only [intOf]; omega
    have hs3 : s = 0 ∨ (K : Int) ≤ s := by omega
    go_upto_region 7 with fail
    go_cut [42] from 43 to 50 (fun v wx => v = .bool false ∧ wx = W3)
    case first =>
      rcases hs3 with hs4 | hs4
      · have hf3 : decide ((0 : Int) < (s : Int)) = false := by simp; omega
        go_wp2_with fail
        go_meet
        case rel => exact ⟨rfl, rfl⟩
      · have hf3 : decide ((s : Int) < (K : Int)) = false := by simp; omega
        have hs5 : (0 : Int) < (s : Int) := by have := HKK.out; omega
        go_wp2_with fail
        go_meet
        case rel => exact ⟨congrArg Value.bool (decide_eq_false (by omega)), rfl⟩
    case rest =>
    obtain ⟨rfl, rfl⟩ := hcut
    generalize wc = W3 at *
    clear hs3 hsk
    obtain ⟨x0, rfl, hx0, hc0⟩ := (HO.out.below HP3.out.b).2.2 i hl
    obtain ⟨z, hz⟩ : ∃ z, zs.getD i 0 = z := ⟨_, rfl⟩
    rw [hz] at hc0
    have HZ := Lib.hid hz
    clear hz
    have hK0 : 0 < K := by have := HKK.out; omega
    have hKi : (0 : Int) < (K : Int) := by omega
    have hi0 : (0 : Int) ≤ (i : Int) := by omega
    have hl2 : (i : Int) < (L : Int) := by omega
    obtain ⟨va, vc, hva, hvc⟩ := (HP3.out.own 0 hK0).form
    obtain ⟨N, hN⟩ : ∃ N, ((P.getD 0 []).map actL).length = N := ⟨_, rfl⟩
    rw [hN] at hva hvc
    have HN := Lib.hid hN
    have cs := HP3.out.cell hK0
    rw [hva] at cs
    have HVA := Lib.hid hva
    have HK0 := Lib.hid hK0
    have HOW := Lib.hid (show OwnG W3 w.heap.size 138 2 (.slice va N vc) ((P.getD 0 []).map actL) from hva ▸ HP3.out.own 0 hK0)
    have HLN := Lib.hid (show ((P.getD 0 []).map actL).length + 1 ≤ 1000000 by rw [List.length_map]; have := HOK.out.le (s := 0) (by rw [HP3.out.lp]; exact hK0); omega)
    have HX0 := Lib.hid hx0
    clear hN hva hvc hs hx0 hK0
    by_cases hz3 : z.tmod 3 = 0
    · have hz4 : (z.tmod 3 == 0) = true := by simp [hz3]
      have hbs := fun (W : World) => Blk.made W 138 #[.int .i64 1, .int .i64 0]
      clear hz3
      go_wp2_with (refine wpList_appG info_act rfl (by omega) (by omega) Tryz.underlying136 rfl (.tmp 71) (.tmp 73) rfl rfl (HOW.out.below (below_one _ _)) rfl (actL_ok ⟨1, 0⟩) (made_row1 (hbs _)) HLN.out (Nat.le_trans HP3.out.b.size (below_one _ _).size) ?_; intro v' w' hown hgr hv'; have hq1 := ((HP3.out.below (below_one _ _)).grown HK0.out HVA.out hgr).1; have hq2 := ((HP3.out.below (below_one _ _)).grown HK0.out HVA.out hgr).2; have HPN := Lib.hid ((HP3.out.below (below_one _ _)).next (a := ⟨1, 0⟩) HK0.out (HVA.out.symm ▸ hgr) hown (HVA.out.symm ▸ hv')); obtain ⟨fa, fl, fc, he⟩ : ∃ a l c, v' = .slice a l c := (by obtain ⟨a, c, e, _⟩ := hown.form; exact ⟨a, _, c, e⟩); subst he; clear hown hgr hv')
      go_roundw
      case rel => exact ⟨i + 1, _, _, by rfl, by omega, by omega, HPN.out, by
        have := set_ok (a := ⟨1, 0⟩) HOK.out (by rw [HP3.out.lp]; exact HK0.out) rfl ⟨by decide, by decide⟩
        rw [show i + 1 - 1 = i - 1 + 1 by omega]
        exact this⟩
      case measure => simp only [intOf]; omega
    · have hz4 : (z.tmod 3 == 0) = false := by simp [hz3]
      clear hz3
      go_upto_region 6 with fail
      obtain ⟨r, hr⟩ : ∃ r, z.tmod 4 = r := ⟨_, rfl⟩
      have hrb : -3 ≤ r ∧ r ≤ 3 := by
        rw [← hr]
        have h1 := Int.tmod_lt_of_pos z (show (0 : Int) < 4 by decide)
        have h2 := Int.lt_tmod_of_pos z (show (0 : Int) < 4 by decide)
        omega
      have HRB := Lib.hid hrb
      clear hrb hz4
      have HP4 := Lib.hid (HP3.out.below (below_drew (Below.refl _ _)))
      have HOW4 := Lib.hid (HOW.out.below (below_drew (Below.refl _ _)))
      have e0 : W3.drew.cell? ⟨ob, 0, none⟩ = some (.slice va N vc) := cs
      have e1 : W3.drew.cell? (x0.add i) = some (.int .i64 z) := hc0
      refine wp_region_held_drew (S := (fun w' : World => w'.cell? (x0.add i) = some (.int .i64 z))) (by kernel_rfl) e1 (fun _ => ?_)
      change wpAnyH _ _ _ _ _ 14 #[false, false, false, false, false, false, false, false, false, false, false, false, false, false] _ (World.drew _)
      generalize W3.drew = W4 at *
      refine wpAnyH_take (i := 0) (v := .slice (some ⟨ob, 0, none⟩) K K) rfl (by kernel_rfl) (by kernel_rfl) (by kernel_rfl) (fun _ _ _ h => h) (Or.inl ⟨by rfl, fun u hu => by (go_simp)⟩) e1 ?_
      simp only [List.getElem_toArray, List.getElem_cons_succ, List.getElem_cons_zero, Act.put, List.setIfInBounds_toArray, List.set_cons_zero, List.set_cons_succ]
      refine wpAnyH_take (i := 1) (v := .slice (some ⟨ob, 0, none⟩) K K) rfl (by kernel_rfl) (by kernel_rfl) (by kernel_rfl) (fun _ _ _ h => h) (Or.inl ⟨by rfl, fun u hu => by (go_simp)⟩) e1 ?_
      simp only [List.getElem_toArray, List.getElem_cons_succ, List.getElem_cons_zero, Act.put, List.setIfInBounds_toArray, List.set_cons_zero, List.set_cons_succ]
      refine wpAnyH_take (i := 4) (v := .slice (some x0) L c) rfl (by kernel_rfl) (by kernel_rfl) (by kernel_rfl) (fun _ _ _ h => h) (Or.inl ⟨by rfl, fun u hu => by (go_simp)⟩) e1 ?_
      simp only [List.getElem_toArray, List.getElem_cons_succ, List.getElem_cons_zero, Act.put, List.setIfInBounds_toArray, List.set_cons_zero, List.set_cons_succ]
      refine wpAnyH_take (i := 5) (v := .int .i64 i) rfl (by kernel_rfl) (by kernel_rfl) (by kernel_rfl) (fun _ _ _ h => h) (Or.inl ⟨by rfl, fun u hu => by (go_simp)⟩) e1 ?_
      simp only [List.getElem_toArray, List.getElem_cons_succ, List.getElem_cons_zero, Act.put, List.setIfInBounds_toArray, List.set_cons_zero, List.set_cons_succ]
      refine wpAnyH_take (i := 2) (v := .pointer (some ⟨ob, 0, none⟩)) rfl (by kernel_rfl) (by kernel_rfl) (by kernel_rfl) (fun _ _ _ h => h) (Or.inl ⟨by rfl, fun u hu => by (go_simp; intro hk0; omega)⟩) e1 ?_
      simp only [List.getElem_toArray, List.getElem_cons_succ, List.getElem_cons_zero, Act.put, List.setIfInBounds_toArray, List.set_cons_zero, List.set_cons_succ]
      refine wpAnyH_take (i := 6) (v := .pointer (some (x0.add i))) rfl (by kernel_rfl) (by kernel_rfl) (by kernel_rfl) (fun _ _ _ h => h) (Or.inl ⟨by rfl, fun u hu => by (go_simp)⟩) e1 ?_
      simp only [List.getElem_toArray, List.getElem_cons_succ, List.getElem_cons_zero, Act.put, List.setIfInBounds_toArray, List.set_cons_zero, List.set_cons_succ]
      refine wpAnyH_take (i := 7) (v := .int .i64 z) rfl (by kernel_rfl) (by kernel_rfl) (by kernel_rfl) (fun _ _ _ h => h) (Or.inl ⟨by rfl, fun u hu => by (go_simp)⟩) e1 ?_
      simp only [List.getElem_toArray, List.getElem_cons_succ, List.getElem_cons_zero, Act.put, List.setIfInBounds_toArray, List.set_cons_zero, List.set_cons_succ]
      refine wpAnyH_take (i := 8) (v := .int .i64 r) rfl (by kernel_rfl) (by kernel_rfl) (by kernel_rfl) (fun _ _ _ h => h) (Or.inl ⟨by rfl, fun u hu => by (go_simp)⟩) e1 ?_
      simp only [List.getElem_toArray, List.getElem_cons_succ, List.getElem_cons_zero, Act.put, List.setIfInBounds_toArray, List.set_cons_zero, List.set_cons_succ]
      refine wpAnyH_take (i := 9) (v := .agg #[.int .i64 0, .int .i64 r]) rfl (by kernel_rfl) (by kernel_rfl) (by kernel_rfl) (fun _ _ _ h => h) (Or.inl ⟨by rfl, fun u hu => by (go_simp)⟩) e1 ?_
      simp only [List.getElem_toArray, List.getElem_cons_succ, List.getElem_cons_zero, Act.put, List.setIfInBounds_toArray, List.set_cons_zero, List.set_cons_succ]
      refine wpAnyH_ready (rs := [3, 10]) (by kernel_rfl) (by simp) ?_
      refine AllReadyH.cons rfl (fun KK hK => ?_) (AllReadyH.cons rfl (fun KK hK => ?_) AllReadyH.nil)
      · skip
        go_simp
        refine hK.out _ _ e1 (fun _ => ?_)
        clear hK KK
        simp only [List.getElem_toArray, List.getElem_cons_succ, List.getElem_cons_zero, Act.put, List.setIfInBounds_toArray, List.set_cons_zero, List.set_cons_succ]
        refine wpAnyH_ready (rs := [10]) (by kernel_rfl) (by simp) ?_
        refine AllReadyH.cons rfl (fun KK hK => ?_) AllReadyH.nil
        go_simp
        have HB5 := Lib.hid (below_one W4 (.cells #[.int .i64 0, .int .i64 r] 138))
        have HP5 := Lib.hid (HP4.out.below HB5.out)
        have HOW5 := Lib.hid (HOW4.out.below HB5.out)
        have HBK := Lib.hid (Blk.made W4 138 #[.int .i64 0, .int .i64 r])
        have hx5 : (W4.alloc (.cells #[.int .i64 0, .int .i64 r] 138)).cell? (x0.add i) = some (.int .i64 z) := by rw [← HZ.out]; exact (HO.out.below HP5.out.b).cell hl
        have hc5 : (W4.alloc (.cells #[.int .i64 0, .int .i64 r] 138)).cell? ⟨ob, 0, none⟩ = some (.slice va N vc) := by rw [HP5.out.cell HK0.out, HVA.out]
        refine hK.out _ _ hx5 (fun _ => ?_)
        clear hK KK e0 e1
        simp only [List.getElem_toArray, List.getElem_cons_succ, List.getElem_cons_zero, Act.put, List.setIfInBounds_toArray, List.set_cons_zero, List.set_cons_succ]
        generalize W4.alloc (.cells #[.int .i64 0, .int .i64 r] 138) = W5 at *
        generalize W4.heap.size = nb at *
        refine wpAnyH_ready (rs := [11]) (by kernel_rfl) (by simp) ?_
        refine AllReadyH.cons rfl (fun KK hK => ?_) AllReadyH.nil
        refine wp_appG (v := .slice va N vc) (R := (P.getD 0 []).map actL) (r := actL ⟨0, r⟩) (base := w.heap.size) info_act rfl (by omega) (by omega) Tryz.underlying136 (.tmp 32) (.tmp 39) rfl rfl HOW5.out rfl (actL_ok ⟨0, r⟩) (made_row1 HBK.out) HLN.out HP5.out.b.size ?_
        intro v9 w9 hown hgr hv9
        have hq := HP5.out.grown HK0.out HVA.out hgr
        have HPN := Lib.hid (HP5.out.next (a := ⟨0, r⟩) HK0.out (HVA.out.symm ▸ hgr) hown (HVA.out.symm ▸ hv9))
        obtain ⟨fa, fl, fc, he⟩ : ∃ a l c, v9 = .slice a l c := (by obtain ⟨a, c, e, _⟩ := hown.form; exact ⟨a, _, c, e⟩)
        subst he
        have hx9 : w9.cell? (x0.add i) = some (.int .i64 z) := by rw [← HZ.out]; exact (HO.out.below (below_appG HP5.out.b HOW5.out hgr)).cell hl
        have q1 := hq.1
        have q2 := hq.2
        refine hK.out _ _ hx9 (fun _ => ?_)
        clear hK KK hown hgr hv9 hq hx5 hc5
        simp only [List.getElem_toArray, List.getElem_cons_succ, List.getElem_cons_zero, Act.put, List.setIfInBounds_toArray, List.set_cons_zero, List.set_cons_succ]
        refine wpAnyH_take (i := 12) (v := .pointer (some ⟨ob, 0, none⟩)) rfl (by kernel_rfl) (by kernel_rfl) (by kernel_rfl) (fun _ _ _ h => h) (Or.inl ⟨by rfl, fun u hu => by (go_simp; intro hk0; omega)⟩) hx9 ?_
        simp only [List.getElem_toArray, List.getElem_cons_succ, List.getElem_cons_zero, Act.put, List.setIfInBounds_toArray, List.set_cons_zero, List.set_cons_succ]
        refine wpAnyH_ready (rs := [13]) (by kernel_rfl) (by simp) ?_
        refine AllReadyH.cons rfl (fun KK hK => ?_) AllReadyH.nil
        have hxe : (w9.setCell ⟨ob, 0, none⟩ (.slice fa fl fc)).cell? (x0.add i) = some (.int .i64 z) := by rw [← HZ.out]; exact (HO.out.below HPN.out.b).cell hl
        go_simp
        refine hK.out _ _ hxe (fun _ => ?_)
        clear hK KK q1 q2 hx9 hxe
        simp only [List.getElem_toArray, List.getElem_cons_succ, List.getElem_cons_zero, Act.put, List.setIfInBounds_toArray, List.set_cons_zero, List.set_cons_succ]
        refine wpAnyH_done (by kernel_rfl) ?_ _
        generalize w9.setCell ⟨ob, 0, none⟩ (.slice fa fl fc) = W9 at *
        go_wp2_with fail
        go_roundw
        case rel => exact ⟨i + 1, _, _, by rfl, by omega, by omega, HPN.out, by
          have := set_ok (a := ⟨0, r⟩) HOK.out (by rw [HP3.out.lp]; exact HK0.out) rfl HRB.out
          rw [show i + 1 - 1 = i - 1 + 1 by omega]
          exact this⟩
        case measure => simp only [intOf]; omega
      · skip
        go_simp
        have HB5 := Lib.hid (below_one W4 (.cells #[.int .i64 0, .int .i64 r] 138))
        have HP5 := Lib.hid (HP4.out.below HB5.out)
        have HOW5 := Lib.hid (HOW4.out.below HB5.out)
        have HBK := Lib.hid (Blk.made W4 138 #[.int .i64 0, .int .i64 r])
        have hx5 : (W4.alloc (.cells #[.int .i64 0, .int .i64 r] 138)).cell? (x0.add i) = some (.int .i64 z) := by rw [← HZ.out]; exact (HO.out.below HP5.out.b).cell hl
        have hc5 : (W4.alloc (.cells #[.int .i64 0, .int .i64 r] 138)).cell? ⟨ob, 0, none⟩ = some (.slice va N vc) := by rw [HP5.out.cell HK0.out, HVA.out]
        refine hK.out _ _ hx5 (fun _ => ?_)
        clear hK KK e0 e1
        simp only [List.getElem_toArray, List.getElem_cons_succ, List.getElem_cons_zero, Act.put, List.setIfInBounds_toArray, List.set_cons_zero, List.set_cons_succ]
        generalize W4.alloc (.cells #[.int .i64 0, .int .i64 r] 138) = W5 at *
        generalize W4.heap.size = nb at *
        refine wpAnyH_ready (rs := [3]) (by kernel_rfl) (by simp) ?_
        refine AllReadyH.cons rfl (fun KK hK => ?_) AllReadyH.nil
        go_simp
        refine hK.out _ _ hx5 (fun _ => ?_)
        clear hK KK
        simp only [List.getElem_toArray, List.getElem_cons_succ, List.getElem_cons_zero, Act.put, List.setIfInBounds_toArray, List.set_cons_zero, List.set_cons_succ]
        refine wpAnyH_ready (rs := [11]) (by kernel_rfl) (by simp) ?_
        refine AllReadyH.cons rfl (fun KK hK => ?_) AllReadyH.nil
        refine wp_appG (v := .slice va N vc) (R := (P.getD 0 []).map actL) (r := actL ⟨0, r⟩) (base := w.heap.size) info_act rfl (by omega) (by omega) Tryz.underlying136 (.tmp 32) (.tmp 39) rfl rfl HOW5.out rfl (actL_ok ⟨0, r⟩) (made_row1 HBK.out) HLN.out HP5.out.b.size ?_
        intro v9 w9 hown hgr hv9
        have hq := HP5.out.grown HK0.out HVA.out hgr
        have HPN := Lib.hid (HP5.out.next (a := ⟨0, r⟩) HK0.out (HVA.out.symm ▸ hgr) hown (HVA.out.symm ▸ hv9))
        obtain ⟨fa, fl, fc, he⟩ : ∃ a l c, v9 = .slice a l c := (by obtain ⟨a, c, e, _⟩ := hown.form; exact ⟨a, _, c, e⟩)
        subst he
        have hx9 : w9.cell? (x0.add i) = some (.int .i64 z) := by rw [← HZ.out]; exact (HO.out.below (below_appG HP5.out.b HOW5.out hgr)).cell hl
        have q1 := hq.1
        have q2 := hq.2
        refine hK.out _ _ hx9 (fun _ => ?_)
        clear hK KK hown hgr hv9 hq hx5 hc5
        simp only [List.getElem_toArray, List.getElem_cons_succ, List.getElem_cons_zero, Act.put, List.setIfInBounds_toArray, List.set_cons_zero, List.set_cons_succ]
        refine wpAnyH_take (i := 12) (v := .pointer (some ⟨ob, 0, none⟩)) rfl (by kernel_rfl) (by kernel_rfl) (by kernel_rfl) (fun _ _ _ h => h) (Or.inl ⟨by rfl, fun u hu => by (go_simp; intro hk0; omega)⟩) hx9 ?_
        simp only [List.getElem_toArray, List.getElem_cons_succ, List.getElem_cons_zero, Act.put, List.setIfInBounds_toArray, List.set_cons_zero, List.set_cons_succ]
        refine wpAnyH_ready (rs := [13]) (by kernel_rfl) (by simp) ?_
        refine AllReadyH.cons rfl (fun KK hK => ?_) AllReadyH.nil
        have hxe : (w9.setCell ⟨ob, 0, none⟩ (.slice fa fl fc)).cell? (x0.add i) = some (.int .i64 z) := by rw [← HZ.out]; exact (HO.out.below HPN.out.b).cell hl
        go_simp
        refine hK.out _ _ hxe (fun _ => ?_)
        clear hK KK q1 q2 hx9 hxe
        simp only [List.getElem_toArray, List.getElem_cons_succ, List.getElem_cons_zero, Act.put, List.setIfInBounds_toArray, List.set_cons_zero, List.set_cons_succ]
        refine wpAnyH_done (by kernel_rfl) ?_ _
        generalize w9.setCell ⟨ob, 0, none⟩ (.slice fa fl fc) = W9 at *
        go_wp2_with fail
        go_roundw
        case rel => exact ⟨i + 1, _, _, by rfl, by omega, by omega, HPN.out, by
          have := set_ok (a := ⟨0, r⟩) HOK.out (by rw [HP3.out.lp]; exact HK0.out) rfl HRB.out
          rw [show i + 1 - 1 = i - 1 + 1 by omega]
          exact this⟩
        case measure => simp only [intOf]; omega
end Go.Proofs.YtjehiekmlbeaeaaGreat
