/-
  The walk of the statement ThiefSteals: it returns true. (Written by wip/gen_l10.py.)
-/
import Derived.Test.YtplifdmfoeejaaaGreatMgBL
namespace Go.Proofs.YtplifdmfoeejaaaGreat
open Go Go.RowKit Go.Shelf
set_option linter.unusedSimpArgs false
set_option linter.unusedVariables false

theorem ints_part {w : World} {q : Nat} {p0 p1 p2 p3 : Int} (h : Blk w q 23 #[.int .i64 p0, .int .i64 p1, .int .i64 p2, .int .i64 p3]) (i : Nat) (hi : i < 4) : InInts w (some ⟨q, i, none⟩) 1 [[p0, p1, p2, p3].getD i 0] := by
  refine ⟨rfl, by unfold maxLen; omega, fun j hj => ⟨_, rfl, h.lt, ?_⟩⟩
  obtain rfl : j = 0 := by omega
  have e : (⟨q, i, none⟩ : Addr).add 0 = ⟨q, i, none⟩ := by unfold Addr.add; rfl
  rw [e, h.at_]
  match i, hi with
  | 0, _ => rfl
  | 1, _ => rfl
  | 2, _ => rfl
  | 3, _ => rfl

set_option maxRecDepth 100000 in
set_option maxHeartbeats 16000000 in
theorem tsteals_law {w : World} {ca na : Option Addr} {cn nn : Nat} {cz nz : List Int} (cc nc : Nat) (p0 p1 p2 p3 : Int) (hc : InW w ca cn cz ∧ ∀ x, x ∈ cz → 0 ≤ x) (hz : InInts w na nn nz) :
    Calls Tryz.prog 6 #[.slice ca cn cc, .agg #[.int .i64 p0, .int .i64 p1, .int .i64 p2, .int .i64 p3], .slice na nn nc] w fun e w' => e = .returned (.bool true) ∧ Below w.heap.size w w' := by
  have hPX := Blk.made w 23 #[.int .i64 p0, .int .i64 p1, .int .i64 p2, .int .i64 p3]
  have hPB := below_one w (.cells #[.int .i64 p0, .int .i64 p1, .int .i64 p2, .int .i64 p3] 23)
  have PX0 := Lib.hid hPX
  have B0 := Lib.hid hPB
  have hmc := hc.1.2.1
  have hmz := hz.2.1
  unfold maxLen at hmc hmz
  have HC := Lib.hid hc
  have HZ := Lib.hid hz
  clear hPX hPB hc hz
  by_cases h40 : 40 < cn
  · go_enter Tryz.func6, Tryz.ntmps6
    go_wp2
    go_ret
    exact ⟨rfl, B0.out⟩
  have h41 : decide (40 < (cn : Int)) = false := decide_eq_false (by omega)
  obtain ⟨sb, hsb⟩ : ∃ sb, decide ((nn : Int) ≤ 400) = sb := ⟨_, rfl⟩
  have HSB := Lib.hid hsb
  clear hsb
  go_enter Tryz.func6, Tryz.ntmps6
  go_upto_region 1 with fail
  generalize w.alloc (.cells #[.int .i64 p0, .int .i64 p1, .int .i64 p2, .int .i64 p3] 23) = W0 at *
  have hX := Blk.made W0 24 #[.slice na nn nc]
  have HS := Lib.hid (short1_any hX (by omega))
  rw [HSB.out] at HS
  have PX := Lib.hid (PX0.out.alloc (.cells #[.slice na nn nc] 24))
  have B1 := Lib.hid (B0.out.alloc B0.out.size (.cells #[.slice na nn nc] 24))
  clear hX PX0 B0
  go_wp2_with fail
  (with_reducible refine HS.out.mono ?_)
  rintro e w1 ⟨rfl, rfl⟩
  generalize W0.alloc (.cells #[.slice na nn nc] 24) = W1 at *
  cases sb with
  | false =>
    go_wp2
    go_ret
    exact ⟨rfl, B1.out⟩
  | true =>
  go_upto_region 4 with fail
  go_cut [8] from 24 to 39 (fun v wx => ∃ (qb : Nat) (t b r c : Int), v = .pointer (some ⟨qb, 0, none⟩) ∧ Blk wx qb 27 (qcells t b r c) ∧ c ≤ 100 ∧ Below w.heap.size w wx)
  case first =>
    clear HS HC HZ HSB
    refine wp_region_held_drew (S := (fun _ : World => True)) (by kernel_rfl) trivial (fun _ => ?_)
    change wpAnyH _ _ _ _ _ 18 #[false, false, false, false, false, false, false, false, false, false, false, false, false, false, false, false, false, false] _ (World.drew _)
    have PX0 := Lib.hid (PX.out.below (below_drew (Below.refl _ _)))
    have BB0 := Lib.hid (below_drew B1.out)
    generalize W1.drew = V0 at *
    clear PX B1
    refine wpAnyH_take (i := 0) (v := .slice (some ⟨w.heap.size, 0, none⟩) 1 4) rfl (by kernel_rfl) (by kernel_rfl) (by kernel_rfl) (fun _ _ _ h => h) (Or.inl ⟨by rfl, fun u hu => by (go_simp)⟩) trivial ?_
    simp only [List.getElem_toArray, List.getElem_cons_succ, List.getElem_cons_zero, Act.put, List.setIfInBounds_toArray, List.set_cons_zero, List.set_cons_succ]
    refine wpAnyH_take (i := 4) (v := .slice (some ⟨w.heap.size, 1, none⟩) 1 3) rfl (by kernel_rfl) (by kernel_rfl) (by kernel_rfl) (fun _ _ _ h => h) (Or.inl ⟨by rfl, fun u hu => by (go_simp)⟩) trivial ?_
    simp only [List.getElem_toArray, List.getElem_cons_succ, List.getElem_cons_zero, Act.put, List.setIfInBounds_toArray, List.set_cons_zero, List.set_cons_succ]
    refine wpAnyH_take (i := 8) (v := .slice (some ⟨w.heap.size, 2, none⟩) 1 2) rfl (by kernel_rfl) (by kernel_rfl) (by kernel_rfl) (fun _ _ _ h => h) (Or.inl ⟨by rfl, fun u hu => by (go_simp)⟩) trivial ?_
    simp only [List.getElem_toArray, List.getElem_cons_succ, List.getElem_cons_zero, Act.put, List.setIfInBounds_toArray, List.set_cons_zero, List.set_cons_succ]
    refine wpAnyH_take (i := 12) (v := .slice (some ⟨w.heap.size, 3, none⟩) 1 1) rfl (by kernel_rfl) (by kernel_rfl) (by kernel_rfl) (fun _ _ _ h => h) (Or.inl ⟨by rfl, fun u hu => by (go_simp)⟩) trivial ?_
    simp only [List.getElem_toArray, List.getElem_cons_succ, List.getElem_cons_zero, Act.put, List.setIfInBounds_toArray, List.set_cons_zero, List.set_cons_succ]
    refine wpAnyH_take (i := 1) (v := .int .i64 ((cn : Int) + 3)) rfl (by kernel_rfl) (by kernel_rfl) (by kernel_rfl) (fun _ _ _ h => h) (Or.inl ⟨by rfl, fun u hu => by (go_simp)⟩) trivial ?_
    simp only [List.getElem_toArray, List.getElem_cons_succ, List.getElem_cons_zero, Act.put, List.setIfInBounds_toArray, List.set_cons_zero, List.set_cons_succ]
    refine wpAnyH_take (i := 5) (v := .int .i64 ((cn : Int) + 3)) rfl (by kernel_rfl) (by kernel_rfl) (by kernel_rfl) (fun _ _ _ h => h) (Or.inl ⟨by rfl, fun u hu => by (go_simp)⟩) trivial ?_
    simp only [List.getElem_toArray, List.getElem_cons_succ, List.getElem_cons_zero, Act.put, List.setIfInBounds_toArray, List.set_cons_zero, List.set_cons_succ]
    refine wpAnyH_take (i := 9) (v := .int .i64 ((cn : Int) + 3)) rfl (by kernel_rfl) (by kernel_rfl) (by kernel_rfl) (fun _ _ _ h => h) (Or.inl ⟨by rfl, fun u hu => by (go_simp)⟩) trivial ?_
    simp only [List.getElem_toArray, List.getElem_cons_succ, List.getElem_cons_zero, Act.put, List.setIfInBounds_toArray, List.set_cons_zero, List.set_cons_succ]
    refine wpAnyH_ready (rs := [2, 16]) (by kernel_rfl) (by simp) ?_
    refine AllReadyH.cons rfl (fun K hK => ?_) (AllReadyH.cons rfl (fun K hK => ?_) AllReadyH.nil)
    · skip
      go_simp
      go_at_call 18
      refine (keepnum_lone (ints_part PX0.out 0 (by decide)) 4 ((cn : Int) + 3) (by omega) (by omega)).mono ?_
      rintro e u1 ⟨rfl, nd1, rfl⟩
      have PX1 := Lib.hid (PX0.out.below (below_drewN _ nd1))
      have BB1 := Lib.hid (BB0.out.trans ((below_drewN _ nd1).mono BB0.out.size))
      generalize World.drewN _ nd1 = V1 at *
      clear PX0 BB0
      obtain ⟨y0, hy0⟩ : ∃ y, numl ([p0, p1, p2, p3].getD 0 0) ((cn : Int) + 3) = y := ⟨_, rfl⟩
      have hr0 := numl_in ([p0, p1, p2, p3].getD 0 0) ((cn : Int) + 3) (by omega)
      rw [hy0] at hr0 ⊢
      have HR0 := Lib.hid hr0
      have hw0 : wrap64 (y0 - 1) = y0 - 1 := by unfold wrap64; omega
      have hx0 : IntKind.i64.wrap (y0 - 1) = y0 - 1 := IntWalk.i64_in _ (by omega)
      refine hK.out _ _ trivial (fun _ => ?_)
      clear hK K hy0
      simp only [List.setIfInBounds_toArray, List.set_cons_zero, List.set_cons_succ]
      refine wpAnyH_take (i := 3) (v := .int .i64 (y0 - 1)) rfl (by kernel_rfl) (by kernel_rfl) (by kernel_rfl) (fun _ _ _ h => h) (Or.inl ⟨by rfl, fun u hu => by (go_simp)⟩) trivial ?_
      simp only [List.getElem_toArray, List.getElem_cons_succ, List.getElem_cons_zero, Act.put, List.setIfInBounds_toArray, List.set_cons_zero, List.set_cons_succ]
      clear hw0 hx0 hr0
      refine wpAnyH_ready (rs := [6, 16]) (by kernel_rfl) (by simp) ?_
      refine AllReadyH.cons rfl (fun K hK => ?_) (AllReadyH.cons rfl (fun K hK => ?_) AllReadyH.nil)
      · skip
        go_simp
        go_at_call 18
        refine (keepnum_lone (ints_part PX1.out 1 (by decide)) 3 ((cn : Int) + 3) (by omega) (by omega)).mono ?_
        rintro e u2 ⟨rfl, nd2, rfl⟩
        have PX2 := Lib.hid (PX1.out.below (below_drewN _ nd2))
        have BB2 := Lib.hid (BB1.out.trans ((below_drewN _ nd2).mono BB1.out.size))
        generalize World.drewN _ nd2 = V2 at *
        clear PX1 BB1
        obtain ⟨y1, hy1⟩ : ∃ y, numl ([p0, p1, p2, p3].getD 1 0) ((cn : Int) + 3) = y := ⟨_, rfl⟩
        have hr1 := numl_in ([p0, p1, p2, p3].getD 1 0) ((cn : Int) + 3) (by omega)
        rw [hy1] at hr1 ⊢
        have HR1 := Lib.hid hr1
        have hw1 : wrap64 (y1 - 1) = y1 - 1 := by unfold wrap64; omega
        have hx1 : IntKind.i64.wrap (y1 - 1) = y1 - 1 := IntWalk.i64_in _ (by omega)
        refine hK.out _ _ trivial (fun _ => ?_)
        clear hK K hy1
        simp only [List.setIfInBounds_toArray, List.set_cons_zero, List.set_cons_succ]
        refine wpAnyH_take (i := 7) (v := .int .i64 (y1 - 1)) rfl (by kernel_rfl) (by kernel_rfl) (by kernel_rfl) (fun _ _ _ h => h) (Or.inl ⟨by rfl, fun u hu => by (go_simp)⟩) trivial ?_
        simp only [List.getElem_toArray, List.getElem_cons_succ, List.getElem_cons_zero, Act.put, List.setIfInBounds_toArray, List.set_cons_zero, List.set_cons_succ]
        clear hw1 hx1 hr1
        refine wpAnyH_ready (rs := [10, 16]) (by kernel_rfl) (by simp) ?_
        refine AllReadyH.cons rfl (fun K hK => ?_) (AllReadyH.cons rfl (fun K hK => ?_) AllReadyH.nil)
        · skip
          go_simp
          go_at_call 18
          refine (keepnum_lone (ints_part PX2.out 2 (by decide)) 2 ((cn : Int) + 3) (by omega) (by omega)).mono ?_
          rintro e u3 ⟨rfl, nd3, rfl⟩
          have PX3 := Lib.hid (PX2.out.below (below_drewN _ nd3))
          have BB3 := Lib.hid (BB2.out.trans ((below_drewN _ nd3).mono BB2.out.size))
          generalize World.drewN _ nd3 = V3 at *
          clear PX2 BB2
          obtain ⟨y2, hy2⟩ : ∃ y, numl ([p0, p1, p2, p3].getD 2 0) ((cn : Int) + 3) = y := ⟨_, rfl⟩
          have hr2 := numl_in ([p0, p1, p2, p3].getD 2 0) ((cn : Int) + 3) (by omega)
          rw [hy2] at hr2 ⊢
          have HR2 := Lib.hid hr2
          have hw2 : wrap64 (y2 - 1) = y2 - 1 := by unfold wrap64; omega
          have hx2 : IntKind.i64.wrap (y2 - 1) = y2 - 1 := IntWalk.i64_in _ (by omega)
          refine hK.out _ _ trivial (fun _ => ?_)
          clear hK K hy2
          simp only [List.setIfInBounds_toArray, List.set_cons_zero, List.set_cons_succ]
          refine wpAnyH_take (i := 11) (v := .int .i64 (y2 - 1)) rfl (by kernel_rfl) (by kernel_rfl) (by kernel_rfl) (fun _ _ _ h => h) (Or.inl ⟨by rfl, fun u hu => by (go_simp)⟩) trivial ?_
          simp only [List.getElem_toArray, List.getElem_cons_succ, List.getElem_cons_zero, Act.put, List.setIfInBounds_toArray, List.set_cons_zero, List.set_cons_succ]
          clear hw2 hx2 hr2
          refine wpAnyH_ready (rs := [13, 16]) (by kernel_rfl) (by simp) ?_
          refine AllReadyH.cons rfl (fun K hK => ?_) (AllReadyH.cons rfl (fun K hK => ?_) AllReadyH.nil)
          · skip
            go_simp
            go_at_call 18
            refine (keepnum_lone (ints_part PX3.out 3 (by decide)) 1 7 (by omega) (by omega)).mono ?_
            rintro e u4 ⟨rfl, nd4, rfl⟩
            have PX4 := Lib.hid (PX3.out.below (below_drewN _ nd4))
            have BB4 := Lib.hid (BB3.out.trans ((below_drewN _ nd4).mono BB3.out.size))
            generalize World.drewN _ nd4 = V4 at *
            clear PX3 BB3
            obtain ⟨y3, hy3⟩ : ∃ y, numl ([p0, p1, p2, p3].getD 3 0) 7 = y := ⟨_, rfl⟩
            have hr3 := numl_in ([p0, p1, p2, p3].getD 3 0) 7 (by omega)
            rw [hy3] at hr3 ⊢
            have HR3 := Lib.hid hr3
            have hw3 : wrap64 (y3 - 1) = y3 - 1 := by unfold wrap64; omega
            have hx3 : IntKind.i64.wrap (y3 - 1) = y3 - 1 := IntWalk.i64_in _ (by omega)
            refine hK.out _ _ trivial (fun _ => ?_)
            clear hK K hy3
            simp only [List.setIfInBounds_toArray, List.set_cons_zero, List.set_cons_succ]
            refine wpAnyH_take (i := 14) (v := .int .i64 (y3 - 1)) rfl (by kernel_rfl) (by kernel_rfl) (by kernel_rfl) (fun _ _ _ h => h) (Or.inl ⟨by rfl, fun u hu => by (go_simp)⟩) trivial ?_
            simp only [List.getElem_toArray, List.getElem_cons_succ, List.getElem_cons_zero, Act.put, List.setIfInBounds_toArray, List.set_cons_zero, List.set_cons_succ]
            clear hw3 hx3 hr3
            refine wpAnyH_take (i := 15) (v := qv (y0 - 1) (y1 - 1) (y2 - 1) (y3 - 1)) rfl (by kernel_rfl) (by kernel_rfl) (by kernel_rfl) (fun _ _ _ h => h) (Or.inl ⟨by rfl, fun u hu => by (go_simp)⟩) trivial ?_
            simp only [List.getElem_toArray, List.getElem_cons_succ, List.getElem_cons_zero, Act.put, List.setIfInBounds_toArray, List.set_cons_zero, List.set_cons_succ]
            refine wpAnyH_ready (rs := [16]) (by kernel_rfl) (by simp) ?_
            refine AllReadyH.cons rfl (fun K hK => ?_) AllReadyH.nil
            go_simp
            have hal5 := below_one V4 (.cells (qcells 0 0 0 0) 27)
            have ZZ5 := Lib.hid (Blk.made V4 27 (qcells 0 0 0 0))
            have HG := Lib.hid (show w.heap.size ≤ V4.heap.size from BB4.out.size)
            have PX5 := Lib.hid (PX4.out.below hal5)
            have BB5 := Lib.hid (BB4.out.trans (hal5.mono BB4.out.size))
            clear hal5
            generalize V4.alloc (.cells (qcells 0 0 0 0) 27) = V5 at *
            generalize V4.heap.size = qb at *
            clear PX4 BB4
            refine hK.out _ _ trivial (fun _ => ?_)
            clear hK K
            simp only [List.setIfInBounds_toArray, List.set_cons_zero, List.set_cons_succ]
            refine wpAnyH_ready (rs := [17]) (by kernel_rfl) (by simp) ?_
            refine AllReadyH.cons rfl (fun K hK => ?_) AllReadyH.nil
            rw [if_pos (show Region.wanted _ _ = true by rfl)]
            refine wp_store_row 27 (.tmp 8) (.tmp 39) rfl qb (qcells (y0 - 1) (y1 - 1) (y2 - 1) (y3 - 1)) rfl rfl 27 (qcells 0 0 0 0) ZZ5.out (by kernel_rfl) rfl (by kernel_rfl) ?_
            have hfr := fr_rowP V5 qb (qcells (y0 - 1) (y1 - 1) (y2 - 1) (y3 - 1))
            have ZF := Lib.hid (show Blk (V5.setRow qb (qcells (y0 - 1) (y1 - 1) (y2 - 1) (y3 - 1))) qb 27 (qcells (y0 - 1) (y1 - 1) (y2 - 1) (y3 - 1)) from setRow_heap _ _ _ _ _ _ ZZ5.out)
            have BF := Lib.hid (below_of_fr BB5.out hfr (fun y hy => by simp at hy; rw [hy]; exact HG.out))
            refine hK.out _ _ trivial (fun _ => ?_)
            clear hK K
            simp only [List.setIfInBounds_toArray, List.set_cons_zero, List.set_cons_succ]
            refine wpAnyH_done (by kernel_rfl) ?_ _
            go_wp2_with fail
            go_meet
            case rel => exact ⟨qb, _, _, _, _, rfl, ZF.out, by have := HR3.out; omega, BF.out⟩
          · skip
            go_simp
            have hal6 := below_one V3 (.cells (qcells 0 0 0 0) 27)
            have ZZ6 := Lib.hid (Blk.made V3 27 (qcells 0 0 0 0))
            have HG := Lib.hid (show w.heap.size ≤ V3.heap.size from BB3.out.size)
            have PX6 := Lib.hid (PX3.out.below hal6)
            have BB6 := Lib.hid (BB3.out.trans (hal6.mono BB3.out.size))
            clear hal6
            generalize V3.alloc (.cells (qcells 0 0 0 0) 27) = V6 at *
            generalize V3.heap.size = qb at *
            clear PX3 BB3
            refine hK.out _ _ trivial (fun _ => ?_)
            clear hK K
            simp only [List.setIfInBounds_toArray, List.set_cons_zero, List.set_cons_succ]
            refine wpAnyH_ready (rs := [13]) (by kernel_rfl) (by simp) ?_
            refine AllReadyH.cons rfl (fun K hK => ?_) AllReadyH.nil
            go_simp
            go_at_call 18
            refine (keepnum_lone (ints_part PX6.out 3 (by decide)) 1 7 (by omega) (by omega)).mono ?_
            rintro e u7 ⟨rfl, nd7, rfl⟩
            have PX7 := Lib.hid (PX6.out.below (below_drewN _ nd7))
            have BB7 := Lib.hid (BB6.out.trans ((below_drewN _ nd7).mono BB6.out.size))
            have ZZ7 := Lib.hid (ZZ6.out.below (below_drewN _ nd7))
            generalize World.drewN _ nd7 = V7 at *
            clear PX6 BB6 ZZ6
            obtain ⟨y3, hy3⟩ : ∃ y, numl ([p0, p1, p2, p3].getD 3 0) 7 = y := ⟨_, rfl⟩
            have hr3 := numl_in ([p0, p1, p2, p3].getD 3 0) 7 (by omega)
            rw [hy3] at hr3 ⊢
            have HR3 := Lib.hid hr3
            have hw3 : wrap64 (y3 - 1) = y3 - 1 := by unfold wrap64; omega
            have hx3 : IntKind.i64.wrap (y3 - 1) = y3 - 1 := IntWalk.i64_in _ (by omega)
            refine hK.out _ _ trivial (fun _ => ?_)
            clear hK K hy3
            simp only [List.setIfInBounds_toArray, List.set_cons_zero, List.set_cons_succ]
            refine wpAnyH_take (i := 14) (v := .int .i64 (y3 - 1)) rfl (by kernel_rfl) (by kernel_rfl) (by kernel_rfl) (fun _ _ _ h => h) (Or.inl ⟨by rfl, fun u hu => by (go_simp)⟩) trivial ?_
            simp only [List.getElem_toArray, List.getElem_cons_succ, List.getElem_cons_zero, Act.put, List.setIfInBounds_toArray, List.set_cons_zero, List.set_cons_succ]
            clear hw3 hx3 hr3
            refine wpAnyH_take (i := 15) (v := qv (y0 - 1) (y1 - 1) (y2 - 1) (y3 - 1)) rfl (by kernel_rfl) (by kernel_rfl) (by kernel_rfl) (fun _ _ _ h => h) (Or.inl ⟨by rfl, fun u hu => by (go_simp)⟩) trivial ?_
            simp only [List.getElem_toArray, List.getElem_cons_succ, List.getElem_cons_zero, Act.put, List.setIfInBounds_toArray, List.set_cons_zero, List.set_cons_succ]
            refine wpAnyH_ready (rs := [17]) (by kernel_rfl) (by simp) ?_
            refine AllReadyH.cons rfl (fun K hK => ?_) AllReadyH.nil
            rw [if_pos (show Region.wanted _ _ = true by rfl)]
            refine wp_store_row 27 (.tmp 8) (.tmp 39) rfl qb (qcells (y0 - 1) (y1 - 1) (y2 - 1) (y3 - 1)) rfl rfl 27 (qcells 0 0 0 0) ZZ7.out (by kernel_rfl) rfl (by kernel_rfl) ?_
            have hfr := fr_rowP V7 qb (qcells (y0 - 1) (y1 - 1) (y2 - 1) (y3 - 1))
            have ZF := Lib.hid (show Blk (V7.setRow qb (qcells (y0 - 1) (y1 - 1) (y2 - 1) (y3 - 1))) qb 27 (qcells (y0 - 1) (y1 - 1) (y2 - 1) (y3 - 1)) from setRow_heap _ _ _ _ _ _ ZZ7.out)
            have BF := Lib.hid (below_of_fr BB7.out hfr (fun y hy => by simp at hy; rw [hy]; exact HG.out))
            refine hK.out _ _ trivial (fun _ => ?_)
            clear hK K
            simp only [List.setIfInBounds_toArray, List.set_cons_zero, List.set_cons_succ]
            refine wpAnyH_done (by kernel_rfl) ?_ _
            go_wp2_with fail
            go_meet
            case rel => exact ⟨qb, _, _, _, _, rfl, ZF.out, by have := HR3.out; omega, BF.out⟩
        · skip
          go_simp
          have hal8 := below_one V2 (.cells (qcells 0 0 0 0) 27)
          have ZZ8 := Lib.hid (Blk.made V2 27 (qcells 0 0 0 0))
          have HG := Lib.hid (show w.heap.size ≤ V2.heap.size from BB2.out.size)
          have PX8 := Lib.hid (PX2.out.below hal8)
          have BB8 := Lib.hid (BB2.out.trans (hal8.mono BB2.out.size))
          clear hal8
          generalize V2.alloc (.cells (qcells 0 0 0 0) 27) = V8 at *
          generalize V2.heap.size = qb at *
          clear PX2 BB2
          refine hK.out _ _ trivial (fun _ => ?_)
          clear hK K
          simp only [List.setIfInBounds_toArray, List.set_cons_zero, List.set_cons_succ]
          refine wpAnyH_ready (rs := [10]) (by kernel_rfl) (by simp) ?_
          refine AllReadyH.cons rfl (fun K hK => ?_) AllReadyH.nil
          go_simp
          go_at_call 18
          refine (keepnum_lone (ints_part PX8.out 2 (by decide)) 2 ((cn : Int) + 3) (by omega) (by omega)).mono ?_
          rintro e u9 ⟨rfl, nd9, rfl⟩
          have PX9 := Lib.hid (PX8.out.below (below_drewN _ nd9))
          have BB9 := Lib.hid (BB8.out.trans ((below_drewN _ nd9).mono BB8.out.size))
          have ZZ9 := Lib.hid (ZZ8.out.below (below_drewN _ nd9))
          generalize World.drewN _ nd9 = V9 at *
          clear PX8 BB8 ZZ8
          obtain ⟨y2, hy2⟩ : ∃ y, numl ([p0, p1, p2, p3].getD 2 0) ((cn : Int) + 3) = y := ⟨_, rfl⟩
          have hr2 := numl_in ([p0, p1, p2, p3].getD 2 0) ((cn : Int) + 3) (by omega)
          rw [hy2] at hr2 ⊢
          have HR2 := Lib.hid hr2
          have hw2 : wrap64 (y2 - 1) = y2 - 1 := by unfold wrap64; omega
          have hx2 : IntKind.i64.wrap (y2 - 1) = y2 - 1 := IntWalk.i64_in _ (by omega)
          refine hK.out _ _ trivial (fun _ => ?_)
          clear hK K hy2
          simp only [List.setIfInBounds_toArray, List.set_cons_zero, List.set_cons_succ]
          refine wpAnyH_take (i := 11) (v := .int .i64 (y2 - 1)) rfl (by kernel_rfl) (by kernel_rfl) (by kernel_rfl) (fun _ _ _ h => h) (Or.inl ⟨by rfl, fun u hu => by (go_simp)⟩) trivial ?_
          simp only [List.getElem_toArray, List.getElem_cons_succ, List.getElem_cons_zero, Act.put, List.setIfInBounds_toArray, List.set_cons_zero, List.set_cons_succ]
          clear hw2 hx2 hr2
          refine wpAnyH_ready (rs := [13]) (by kernel_rfl) (by simp) ?_
          refine AllReadyH.cons rfl (fun K hK => ?_) AllReadyH.nil
          go_simp
          go_at_call 18
          refine (keepnum_lone (ints_part PX9.out 3 (by decide)) 1 7 (by omega) (by omega)).mono ?_
          rintro e u10 ⟨rfl, nd10, rfl⟩
          have PX10 := Lib.hid (PX9.out.below (below_drewN _ nd10))
          have BB10 := Lib.hid (BB9.out.trans ((below_drewN _ nd10).mono BB9.out.size))
          have ZZ10 := Lib.hid (ZZ9.out.below (below_drewN _ nd10))
          generalize World.drewN _ nd10 = V10 at *
          clear PX9 BB9 ZZ9
          obtain ⟨y3, hy3⟩ : ∃ y, numl ([p0, p1, p2, p3].getD 3 0) 7 = y := ⟨_, rfl⟩
          have hr3 := numl_in ([p0, p1, p2, p3].getD 3 0) 7 (by omega)
          rw [hy3] at hr3 ⊢
          have HR3 := Lib.hid hr3
          have hw3 : wrap64 (y3 - 1) = y3 - 1 := by unfold wrap64; omega
          have hx3 : IntKind.i64.wrap (y3 - 1) = y3 - 1 := IntWalk.i64_in _ (by omega)
          refine hK.out _ _ trivial (fun _ => ?_)
          clear hK K hy3
          simp only [List.setIfInBounds_toArray, List.set_cons_zero, List.set_cons_succ]
          refine wpAnyH_take (i := 14) (v := .int .i64 (y3 - 1)) rfl (by kernel_rfl) (by kernel_rfl) (by kernel_rfl) (fun _ _ _ h => h) (Or.inl ⟨by rfl, fun u hu => by (go_simp)⟩) trivial ?_
          simp only [List.getElem_toArray, List.getElem_cons_succ, List.getElem_cons_zero, Act.put, List.setIfInBounds_toArray, List.set_cons_zero, List.set_cons_succ]
          clear hw3 hx3 hr3
          refine wpAnyH_take (i := 15) (v := qv (y0 - 1) (y1 - 1) (y2 - 1) (y3 - 1)) rfl (by kernel_rfl) (by kernel_rfl) (by kernel_rfl) (fun _ _ _ h => h) (Or.inl ⟨by rfl, fun u hu => by (go_simp)⟩) trivial ?_
          simp only [List.getElem_toArray, List.getElem_cons_succ, List.getElem_cons_zero, Act.put, List.setIfInBounds_toArray, List.set_cons_zero, List.set_cons_succ]
          refine wpAnyH_ready (rs := [17]) (by kernel_rfl) (by simp) ?_
          refine AllReadyH.cons rfl (fun K hK => ?_) AllReadyH.nil
          rw [if_pos (show Region.wanted _ _ = true by rfl)]
          refine wp_store_row 27 (.tmp 8) (.tmp 39) rfl qb (qcells (y0 - 1) (y1 - 1) (y2 - 1) (y3 - 1)) rfl rfl 27 (qcells 0 0 0 0) ZZ10.out (by kernel_rfl) rfl (by kernel_rfl) ?_
          have hfr := fr_rowP V10 qb (qcells (y0 - 1) (y1 - 1) (y2 - 1) (y3 - 1))
          have ZF := Lib.hid (show Blk (V10.setRow qb (qcells (y0 - 1) (y1 - 1) (y2 - 1) (y3 - 1))) qb 27 (qcells (y0 - 1) (y1 - 1) (y2 - 1) (y3 - 1)) from setRow_heap _ _ _ _ _ _ ZZ10.out)
          have BF := Lib.hid (below_of_fr BB10.out hfr (fun y hy => by simp at hy; rw [hy]; exact HG.out))
          refine hK.out _ _ trivial (fun _ => ?_)
          clear hK K
          simp only [List.setIfInBounds_toArray, List.set_cons_zero, List.set_cons_succ]
          refine wpAnyH_done (by kernel_rfl) ?_ _
          go_wp2_with fail
          go_meet
          case rel => exact ⟨qb, _, _, _, _, rfl, ZF.out, by have := HR3.out; omega, BF.out⟩
      · skip
        go_simp
        have hal11 := below_one V1 (.cells (qcells 0 0 0 0) 27)
        have ZZ11 := Lib.hid (Blk.made V1 27 (qcells 0 0 0 0))
        have HG := Lib.hid (show w.heap.size ≤ V1.heap.size from BB1.out.size)
        have PX11 := Lib.hid (PX1.out.below hal11)
        have BB11 := Lib.hid (BB1.out.trans (hal11.mono BB1.out.size))
        clear hal11
        generalize V1.alloc (.cells (qcells 0 0 0 0) 27) = V11 at *
        generalize V1.heap.size = qb at *
        clear PX1 BB1
        refine hK.out _ _ trivial (fun _ => ?_)
        clear hK K
        simp only [List.setIfInBounds_toArray, List.set_cons_zero, List.set_cons_succ]
        refine wpAnyH_ready (rs := [6]) (by kernel_rfl) (by simp) ?_
        refine AllReadyH.cons rfl (fun K hK => ?_) AllReadyH.nil
        go_simp
        go_at_call 18
        refine (keepnum_lone (ints_part PX11.out 1 (by decide)) 3 ((cn : Int) + 3) (by omega) (by omega)).mono ?_
        rintro e u12 ⟨rfl, nd12, rfl⟩
        have PX12 := Lib.hid (PX11.out.below (below_drewN _ nd12))
        have BB12 := Lib.hid (BB11.out.trans ((below_drewN _ nd12).mono BB11.out.size))
        have ZZ12 := Lib.hid (ZZ11.out.below (below_drewN _ nd12))
        generalize World.drewN _ nd12 = V12 at *
        clear PX11 BB11 ZZ11
        obtain ⟨y1, hy1⟩ : ∃ y, numl ([p0, p1, p2, p3].getD 1 0) ((cn : Int) + 3) = y := ⟨_, rfl⟩
        have hr1 := numl_in ([p0, p1, p2, p3].getD 1 0) ((cn : Int) + 3) (by omega)
        rw [hy1] at hr1 ⊢
        have HR1 := Lib.hid hr1
        have hw1 : wrap64 (y1 - 1) = y1 - 1 := by unfold wrap64; omega
        have hx1 : IntKind.i64.wrap (y1 - 1) = y1 - 1 := IntWalk.i64_in _ (by omega)
        refine hK.out _ _ trivial (fun _ => ?_)
        clear hK K hy1
        simp only [List.setIfInBounds_toArray, List.set_cons_zero, List.set_cons_succ]
        refine wpAnyH_take (i := 7) (v := .int .i64 (y1 - 1)) rfl (by kernel_rfl) (by kernel_rfl) (by kernel_rfl) (fun _ _ _ h => h) (Or.inl ⟨by rfl, fun u hu => by (go_simp)⟩) trivial ?_
        simp only [List.getElem_toArray, List.getElem_cons_succ, List.getElem_cons_zero, Act.put, List.setIfInBounds_toArray, List.set_cons_zero, List.set_cons_succ]
        clear hw1 hx1 hr1
        refine wpAnyH_ready (rs := [10]) (by kernel_rfl) (by simp) ?_
        refine AllReadyH.cons rfl (fun K hK => ?_) AllReadyH.nil
        go_simp
        go_at_call 18
        refine (keepnum_lone (ints_part PX12.out 2 (by decide)) 2 ((cn : Int) + 3) (by omega) (by omega)).mono ?_
        rintro e u13 ⟨rfl, nd13, rfl⟩
        have PX13 := Lib.hid (PX12.out.below (below_drewN _ nd13))
        have BB13 := Lib.hid (BB12.out.trans ((below_drewN _ nd13).mono BB12.out.size))
        have ZZ13 := Lib.hid (ZZ12.out.below (below_drewN _ nd13))
        generalize World.drewN _ nd13 = V13 at *
        clear PX12 BB12 ZZ12
        obtain ⟨y2, hy2⟩ : ∃ y, numl ([p0, p1, p2, p3].getD 2 0) ((cn : Int) + 3) = y := ⟨_, rfl⟩
        have hr2 := numl_in ([p0, p1, p2, p3].getD 2 0) ((cn : Int) + 3) (by omega)
        rw [hy2] at hr2 ⊢
        have HR2 := Lib.hid hr2
        have hw2 : wrap64 (y2 - 1) = y2 - 1 := by unfold wrap64; omega
        have hx2 : IntKind.i64.wrap (y2 - 1) = y2 - 1 := IntWalk.i64_in _ (by omega)
        refine hK.out _ _ trivial (fun _ => ?_)
        clear hK K hy2
        simp only [List.setIfInBounds_toArray, List.set_cons_zero, List.set_cons_succ]
        refine wpAnyH_take (i := 11) (v := .int .i64 (y2 - 1)) rfl (by kernel_rfl) (by kernel_rfl) (by kernel_rfl) (fun _ _ _ h => h) (Or.inl ⟨by rfl, fun u hu => by (go_simp)⟩) trivial ?_
        simp only [List.getElem_toArray, List.getElem_cons_succ, List.getElem_cons_zero, Act.put, List.setIfInBounds_toArray, List.set_cons_zero, List.set_cons_succ]
        clear hw2 hx2 hr2
        refine wpAnyH_ready (rs := [13]) (by kernel_rfl) (by simp) ?_
        refine AllReadyH.cons rfl (fun K hK => ?_) AllReadyH.nil
        go_simp
        go_at_call 18
        refine (keepnum_lone (ints_part PX13.out 3 (by decide)) 1 7 (by omega) (by omega)).mono ?_
        rintro e u14 ⟨rfl, nd14, rfl⟩
        have PX14 := Lib.hid (PX13.out.below (below_drewN _ nd14))
        have BB14 := Lib.hid (BB13.out.trans ((below_drewN _ nd14).mono BB13.out.size))
        have ZZ14 := Lib.hid (ZZ13.out.below (below_drewN _ nd14))
        generalize World.drewN _ nd14 = V14 at *
        clear PX13 BB13 ZZ13
        obtain ⟨y3, hy3⟩ : ∃ y, numl ([p0, p1, p2, p3].getD 3 0) 7 = y := ⟨_, rfl⟩
        have hr3 := numl_in ([p0, p1, p2, p3].getD 3 0) 7 (by omega)
        rw [hy3] at hr3 ⊢
        have HR3 := Lib.hid hr3
        have hw3 : wrap64 (y3 - 1) = y3 - 1 := by unfold wrap64; omega
        have hx3 : IntKind.i64.wrap (y3 - 1) = y3 - 1 := IntWalk.i64_in _ (by omega)
        refine hK.out _ _ trivial (fun _ => ?_)
        clear hK K hy3
        simp only [List.setIfInBounds_toArray, List.set_cons_zero, List.set_cons_succ]
        refine wpAnyH_take (i := 14) (v := .int .i64 (y3 - 1)) rfl (by kernel_rfl) (by kernel_rfl) (by kernel_rfl) (fun _ _ _ h => h) (Or.inl ⟨by rfl, fun u hu => by (go_simp)⟩) trivial ?_
        simp only [List.getElem_toArray, List.getElem_cons_succ, List.getElem_cons_zero, Act.put, List.setIfInBounds_toArray, List.set_cons_zero, List.set_cons_succ]
        clear hw3 hx3 hr3
        refine wpAnyH_take (i := 15) (v := qv (y0 - 1) (y1 - 1) (y2 - 1) (y3 - 1)) rfl (by kernel_rfl) (by kernel_rfl) (by kernel_rfl) (fun _ _ _ h => h) (Or.inl ⟨by rfl, fun u hu => by (go_simp)⟩) trivial ?_
        simp only [List.getElem_toArray, List.getElem_cons_succ, List.getElem_cons_zero, Act.put, List.setIfInBounds_toArray, List.set_cons_zero, List.set_cons_succ]
        refine wpAnyH_ready (rs := [17]) (by kernel_rfl) (by simp) ?_
        refine AllReadyH.cons rfl (fun K hK => ?_) AllReadyH.nil
        rw [if_pos (show Region.wanted _ _ = true by rfl)]
        refine wp_store_row 27 (.tmp 8) (.tmp 39) rfl qb (qcells (y0 - 1) (y1 - 1) (y2 - 1) (y3 - 1)) rfl rfl 27 (qcells 0 0 0 0) ZZ14.out (by kernel_rfl) rfl (by kernel_rfl) ?_
        have hfr := fr_rowP V14 qb (qcells (y0 - 1) (y1 - 1) (y2 - 1) (y3 - 1))
        have ZF := Lib.hid (show Blk (V14.setRow qb (qcells (y0 - 1) (y1 - 1) (y2 - 1) (y3 - 1))) qb 27 (qcells (y0 - 1) (y1 - 1) (y2 - 1) (y3 - 1)) from setRow_heap _ _ _ _ _ _ ZZ14.out)
        have BF := Lib.hid (below_of_fr BB14.out hfr (fun y hy => by simp at hy; rw [hy]; exact HG.out))
        refine hK.out _ _ trivial (fun _ => ?_)
        clear hK K
        simp only [List.setIfInBounds_toArray, List.set_cons_zero, List.set_cons_succ]
        refine wpAnyH_done (by kernel_rfl) ?_ _
        go_wp2_with fail
        go_meet
        case rel => exact ⟨qb, _, _, _, _, rfl, ZF.out, by have := HR3.out; omega, BF.out⟩
    · skip
      go_simp
      have hal15 := below_one V0 (.cells (qcells 0 0 0 0) 27)
      have ZZ15 := Lib.hid (Blk.made V0 27 (qcells 0 0 0 0))
      have HG := Lib.hid (show w.heap.size ≤ V0.heap.size from BB0.out.size)
      have PX15 := Lib.hid (PX0.out.below hal15)
      have BB15 := Lib.hid (BB0.out.trans (hal15.mono BB0.out.size))
      clear hal15
      generalize V0.alloc (.cells (qcells 0 0 0 0) 27) = V15 at *
      generalize V0.heap.size = qb at *
      clear PX0 BB0
      refine hK.out _ _ trivial (fun _ => ?_)
      clear hK K
      simp only [List.setIfInBounds_toArray, List.set_cons_zero, List.set_cons_succ]
      refine wpAnyH_ready (rs := [2]) (by kernel_rfl) (by simp) ?_
      refine AllReadyH.cons rfl (fun K hK => ?_) AllReadyH.nil
      go_simp
      go_at_call 18
      refine (keepnum_lone (ints_part PX15.out 0 (by decide)) 4 ((cn : Int) + 3) (by omega) (by omega)).mono ?_
      rintro e u16 ⟨rfl, nd16, rfl⟩
      have PX16 := Lib.hid (PX15.out.below (below_drewN _ nd16))
      have BB16 := Lib.hid (BB15.out.trans ((below_drewN _ nd16).mono BB15.out.size))
      have ZZ16 := Lib.hid (ZZ15.out.below (below_drewN _ nd16))
      generalize World.drewN _ nd16 = V16 at *
      clear PX15 BB15 ZZ15
      obtain ⟨y0, hy0⟩ : ∃ y, numl ([p0, p1, p2, p3].getD 0 0) ((cn : Int) + 3) = y := ⟨_, rfl⟩
      have hr0 := numl_in ([p0, p1, p2, p3].getD 0 0) ((cn : Int) + 3) (by omega)
      rw [hy0] at hr0 ⊢
      have HR0 := Lib.hid hr0
      have hw0 : wrap64 (y0 - 1) = y0 - 1 := by unfold wrap64; omega
      have hx0 : IntKind.i64.wrap (y0 - 1) = y0 - 1 := IntWalk.i64_in _ (by omega)
      refine hK.out _ _ trivial (fun _ => ?_)
      clear hK K hy0
      simp only [List.setIfInBounds_toArray, List.set_cons_zero, List.set_cons_succ]
      refine wpAnyH_take (i := 3) (v := .int .i64 (y0 - 1)) rfl (by kernel_rfl) (by kernel_rfl) (by kernel_rfl) (fun _ _ _ h => h) (Or.inl ⟨by rfl, fun u hu => by (go_simp)⟩) trivial ?_
      simp only [List.getElem_toArray, List.getElem_cons_succ, List.getElem_cons_zero, Act.put, List.setIfInBounds_toArray, List.set_cons_zero, List.set_cons_succ]
      clear hw0 hx0 hr0
      refine wpAnyH_ready (rs := [6]) (by kernel_rfl) (by simp) ?_
      refine AllReadyH.cons rfl (fun K hK => ?_) AllReadyH.nil
      go_simp
      go_at_call 18
      refine (keepnum_lone (ints_part PX16.out 1 (by decide)) 3 ((cn : Int) + 3) (by omega) (by omega)).mono ?_
      rintro e u17 ⟨rfl, nd17, rfl⟩
      have PX17 := Lib.hid (PX16.out.below (below_drewN _ nd17))
      have BB17 := Lib.hid (BB16.out.trans ((below_drewN _ nd17).mono BB16.out.size))
      have ZZ17 := Lib.hid (ZZ16.out.below (below_drewN _ nd17))
      generalize World.drewN _ nd17 = V17 at *
      clear PX16 BB16 ZZ16
      obtain ⟨y1, hy1⟩ : ∃ y, numl ([p0, p1, p2, p3].getD 1 0) ((cn : Int) + 3) = y := ⟨_, rfl⟩
      have hr1 := numl_in ([p0, p1, p2, p3].getD 1 0) ((cn : Int) + 3) (by omega)
      rw [hy1] at hr1 ⊢
      have HR1 := Lib.hid hr1
      have hw1 : wrap64 (y1 - 1) = y1 - 1 := by unfold wrap64; omega
      have hx1 : IntKind.i64.wrap (y1 - 1) = y1 - 1 := IntWalk.i64_in _ (by omega)
      refine hK.out _ _ trivial (fun _ => ?_)
      clear hK K hy1
      simp only [List.setIfInBounds_toArray, List.set_cons_zero, List.set_cons_succ]
      refine wpAnyH_take (i := 7) (v := .int .i64 (y1 - 1)) rfl (by kernel_rfl) (by kernel_rfl) (by kernel_rfl) (fun _ _ _ h => h) (Or.inl ⟨by rfl, fun u hu => by (go_simp)⟩) trivial ?_
      simp only [List.getElem_toArray, List.getElem_cons_succ, List.getElem_cons_zero, Act.put, List.setIfInBounds_toArray, List.set_cons_zero, List.set_cons_succ]
      clear hw1 hx1 hr1
      refine wpAnyH_ready (rs := [10]) (by kernel_rfl) (by simp) ?_
      refine AllReadyH.cons rfl (fun K hK => ?_) AllReadyH.nil
      go_simp
      go_at_call 18
      refine (keepnum_lone (ints_part PX17.out 2 (by decide)) 2 ((cn : Int) + 3) (by omega) (by omega)).mono ?_
      rintro e u18 ⟨rfl, nd18, rfl⟩
      have PX18 := Lib.hid (PX17.out.below (below_drewN _ nd18))
      have BB18 := Lib.hid (BB17.out.trans ((below_drewN _ nd18).mono BB17.out.size))
      have ZZ18 := Lib.hid (ZZ17.out.below (below_drewN _ nd18))
      generalize World.drewN _ nd18 = V18 at *
      clear PX17 BB17 ZZ17
      obtain ⟨y2, hy2⟩ : ∃ y, numl ([p0, p1, p2, p3].getD 2 0) ((cn : Int) + 3) = y := ⟨_, rfl⟩
      have hr2 := numl_in ([p0, p1, p2, p3].getD 2 0) ((cn : Int) + 3) (by omega)
      rw [hy2] at hr2 ⊢
      have HR2 := Lib.hid hr2
      have hw2 : wrap64 (y2 - 1) = y2 - 1 := by unfold wrap64; omega
      have hx2 : IntKind.i64.wrap (y2 - 1) = y2 - 1 := IntWalk.i64_in _ (by omega)
      refine hK.out _ _ trivial (fun _ => ?_)
      clear hK K hy2
      simp only [List.setIfInBounds_toArray, List.set_cons_zero, List.set_cons_succ]
      refine wpAnyH_take (i := 11) (v := .int .i64 (y2 - 1)) rfl (by kernel_rfl) (by kernel_rfl) (by kernel_rfl) (fun _ _ _ h => h) (Or.inl ⟨by rfl, fun u hu => by (go_simp)⟩) trivial ?_
      simp only [List.getElem_toArray, List.getElem_cons_succ, List.getElem_cons_zero, Act.put, List.setIfInBounds_toArray, List.set_cons_zero, List.set_cons_succ]
      clear hw2 hx2 hr2
      refine wpAnyH_ready (rs := [13]) (by kernel_rfl) (by simp) ?_
      refine AllReadyH.cons rfl (fun K hK => ?_) AllReadyH.nil
      go_simp
      go_at_call 18
      refine (keepnum_lone (ints_part PX18.out 3 (by decide)) 1 7 (by omega) (by omega)).mono ?_
      rintro e u19 ⟨rfl, nd19, rfl⟩
      have PX19 := Lib.hid (PX18.out.below (below_drewN _ nd19))
      have BB19 := Lib.hid (BB18.out.trans ((below_drewN _ nd19).mono BB18.out.size))
      have ZZ19 := Lib.hid (ZZ18.out.below (below_drewN _ nd19))
      generalize World.drewN _ nd19 = V19 at *
      clear PX18 BB18 ZZ18
      obtain ⟨y3, hy3⟩ : ∃ y, numl ([p0, p1, p2, p3].getD 3 0) 7 = y := ⟨_, rfl⟩
      have hr3 := numl_in ([p0, p1, p2, p3].getD 3 0) 7 (by omega)
      rw [hy3] at hr3 ⊢
      have HR3 := Lib.hid hr3
      have hw3 : wrap64 (y3 - 1) = y3 - 1 := by unfold wrap64; omega
      have hx3 : IntKind.i64.wrap (y3 - 1) = y3 - 1 := IntWalk.i64_in _ (by omega)
      refine hK.out _ _ trivial (fun _ => ?_)
      clear hK K hy3
      simp only [List.setIfInBounds_toArray, List.set_cons_zero, List.set_cons_succ]
      refine wpAnyH_take (i := 14) (v := .int .i64 (y3 - 1)) rfl (by kernel_rfl) (by kernel_rfl) (by kernel_rfl) (fun _ _ _ h => h) (Or.inl ⟨by rfl, fun u hu => by (go_simp)⟩) trivial ?_
      simp only [List.getElem_toArray, List.getElem_cons_succ, List.getElem_cons_zero, Act.put, List.setIfInBounds_toArray, List.set_cons_zero, List.set_cons_succ]
      clear hw3 hx3 hr3
      refine wpAnyH_take (i := 15) (v := qv (y0 - 1) (y1 - 1) (y2 - 1) (y3 - 1)) rfl (by kernel_rfl) (by kernel_rfl) (by kernel_rfl) (fun _ _ _ h => h) (Or.inl ⟨by rfl, fun u hu => by (go_simp)⟩) trivial ?_
      simp only [List.getElem_toArray, List.getElem_cons_succ, List.getElem_cons_zero, Act.put, List.setIfInBounds_toArray, List.set_cons_zero, List.set_cons_succ]
      refine wpAnyH_ready (rs := [17]) (by kernel_rfl) (by simp) ?_
      refine AllReadyH.cons rfl (fun K hK => ?_) AllReadyH.nil
      rw [if_pos (show Region.wanted _ _ = true by rfl)]
      refine wp_store_row 27 (.tmp 8) (.tmp 39) rfl qb (qcells (y0 - 1) (y1 - 1) (y2 - 1) (y3 - 1)) rfl rfl 27 (qcells 0 0 0 0) ZZ19.out (by kernel_rfl) rfl (by kernel_rfl) ?_
      have hfr := fr_rowP V19 qb (qcells (y0 - 1) (y1 - 1) (y2 - 1) (y3 - 1))
      have ZF := Lib.hid (show Blk (V19.setRow qb (qcells (y0 - 1) (y1 - 1) (y2 - 1) (y3 - 1))) qb 27 (qcells (y0 - 1) (y1 - 1) (y2 - 1) (y3 - 1)) from setRow_heap _ _ _ _ _ _ ZZ19.out)
      have BF := Lib.hid (below_of_fr BB19.out hfr (fun y hy => by simp at hy; rw [hy]; exact HG.out))
      refine hK.out _ _ trivial (fun _ => ?_)
      clear hK K
      simp only [List.setIfInBounds_toArray, List.set_cons_zero, List.set_cons_succ]
      refine wpAnyH_done (by kernel_rfl) ?_ _
      go_wp2_with fail
      go_meet
      case rel => exact ⟨qb, _, _, _, _, rfl, ZF.out, by have := HR3.out; omega, BF.out⟩
  case rest =>
  obtain ⟨qb, t, b, r, c, rfl, hq3, hck, hb3⟩ := hcut
  have Q3 := Lib.hid hq3
  have B3 := Lib.hid hb3
  clear hq3 hb3 B1 PX HS
  generalize wc = W3 at *
  go_wp2_with fail
  (with_reducible refine (mbare_any (HC.out.1.below B3.out) cc (by omega)).mono ?_)
  rintro e w5 ⟨p, m, k, g, q, ag, acap, s, rfl, hd, hsX, hsc, hb5⟩
  have D5 := Lib.hid hd
  have S5 := Lib.hid (And.intro (Row.inNN HC.out.2 hsX) (show 0 ≤ s.c ∧ s.c ≤ 1000 by omega))
  have Q5 := Lib.hid (Q3.out.below hb5)
  have B5 := Lib.hid hb5
  have Q3x := Q3
  have Z4 := Lib.hid (HZ.out.below B3.out)
  clear hd hsX hsc hb5 Q3
  go_wp2_with fail
  have D5d := Lib.hid (D5.out.drewN 1)
  have Q5d := Lib.hid (Q5.out.below (below_drew (Below.refl _ _)))
  have B5d := Lib.hid (below_drew B5.out)
  clear D5 Q5 B5
  have y0 : w5.drew.cell? ⟨qb, 0, none⟩ = some (.int .i64 t) := Q5d.out.at_ 0
  have y1 : w5.drew.cell? ⟨qb, 1, none⟩ = some (.int .i64 b) := Q5d.out.at_ 1
  have y2 : w5.drew.cell? ⟨qb, 2, none⟩ = some (.int .i64 r) := Q5d.out.at_ 2
  have y3 : w5.drew.cell? ⟨qb, 3, none⟩ = some (.int .i64 c) := Q5d.out.at_ 3
  go_region_held3 (fun w' => w'.cell? ⟨qb, 0, none⟩ = some (.int .i64 t) ∧ w'.cell? ⟨qb, 1, none⟩ = some (.int .i64 b) ∧ w'.cell? ⟨qb, 2, none⟩ = some (.int .i64 r) ∧ w'.cell? ⟨qb, 3, none⟩ = some (.int .i64 c)) ((first | exact ⟨x0, x1, x2, x3⟩ | exact ⟨z0, z1, z2, z3⟩ | exact ⟨v0, v1, v2, v3⟩ | exact ⟨u0, u1, u2, u3⟩ | exact ⟨y0, y1, y2, y3⟩ | go_keep))
    (first
     | (go_at_call 19
        refine (awake10_any _).mono ?_
        rintro e w6 ⟨rfl, hb6⟩
        have D6 := Lib.hid (D5d.out.below hb6)
        have Q6 := Lib.hid (Q5d.out.below hb6)
        have B6 := Lib.hid (B5d.out.trans (hb6.mono B5d.out.size))
        have u0 : w6.cell? ⟨qb, 0, none⟩ = some (.int .i64 t) := Q6.out.at_ 0
        have u1 : w6.cell? ⟨qb, 1, none⟩ = some (.int .i64 b) := Q6.out.at_ 1
        have u2 : w6.cell? ⟨qb, 2, none⟩ = some (.int .i64 r) := Q6.out.at_ 2
        have u3 : w6.cell? ⟨qb, 3, none⟩ = some (.int .i64 c) := Q6.out.at_ 3)
     | (go_at_call 20
        refine (oSteal_any t b r c _).mono ?_
        rintro e w7 ⟨x, rfl, ho, hx, hb7⟩
        have Q7 := Lib.hid (Q6.out.below hb7)
        have v0 : w7.cell? ⟨qb, 0, none⟩ = some (.int .i64 t) := Q7.out.at_ 0
        have v1 : w7.cell? ⟨qb, 1, none⟩ = some (.int .i64 b) := Q7.out.at_ 1
        have v2 : w7.cell? ⟨qb, 2, none⟩ = some (.int .i64 r) := Q7.out.at_ 2
        have v3 : w7.cell? ⟨qb, 3, none⟩ = some (.int .i64 c) := Q7.out.at_ 3)
     | (go_at_call 14
        refine (make_any { fra1 2 t b r c 0 with ln := 0 } _ (by rfl)).mono ?_
        rintro e w8 ⟨y, gy, cy, rfl, hm, hb8⟩
        have Q8 := Lib.hid (Q7.out.below hb8)
        have M8 := Lib.hid (ms_start_stealer D6.out S5.out.1 S5.out.2 B6.out hb7 ho hx hb8 hm hck)
        have z0 : w8.cell? ⟨qb, 0, none⟩ = some (.int .i64 t) := Q8.out.at_ 0
        have z1 : w8.cell? ⟨qb, 1, none⟩ = some (.int .i64 b) := Q8.out.at_ 1
        have z2 : w8.cell? ⟨qb, 2, none⟩ = some (.int .i64 r) := Q8.out.at_ 2
        have z3 : w8.cell? ⟨qb, 3, none⟩ = some (.int .i64 c) := Q8.out.at_ 3)
     | (go_at_call 12
        refine (match_stealer M8.out (by omega) (by omega) (by simp) Z4.out).mono ?_
        rintro e w9 ⟨rfl, hb9⟩
        have x0 : w9.cell? ⟨qb, 0, none⟩ = some (.int .i64 t) := (Q3x.out.below hb9).at_ 0
        have x1 : w9.cell? ⟨qb, 1, none⟩ = some (.int .i64 b) := (Q3x.out.below hb9).at_ 1
        have x2 : w9.cell? ⟨qb, 2, none⟩ = some (.int .i64 r) := (Q3x.out.below hb9).at_ 2
        have x3 : w9.cell? ⟨qb, 3, none⟩ = some (.int .i64 c) := (Q3x.out.below hb9).at_ 3))
  go_wp2
  go_ret
  exact ⟨rfl, B3.out.trans (hb9.mono B3.out.size)⟩
end Go.Proofs.YtplifdmfoeejaaaGreat
