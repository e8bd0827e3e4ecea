/-
  The law OrderChecks: awake.
-/
import Derived.Test.YtpmdmeolehabjaaOrdL
namespace Go.Proofs.Ytpmdmeolehabjaa
open Go Go.RowKit
set_option linter.unusedSimpArgs false
set_option linter.unusedVariables false

theorem ocheckT {w u : World} {pa : Option Addr} {pn : Nat} (pc : Nat) {sa : Option Addr} {sn : Nat} (sc : Nat) {la : Option Addr} {es : List Ev} (hl : Lists w 0 cT pa pn sa sn) (he : InE u la es) (hu : Below u.heap.size u w) (hn : es.length = 3) :
    Calls Try.prog 13 #[cv cT pa pn pc sa sn sc, .slice la 3 3] w fun e w' => ∃ n err : Int, e = .returned (.tuple #[.int .i64 n, .int .i64 err]) ∧ ChkO cT es n err ∧ Below w.heap.size w w' := by
  have := ocheck_any pc sc 3 hl (he.below hu) (by omega)
  rw [hn] at this
  exact this
theorem oleftT {w u : World} {pa : Option Addr} {pn : Nat} (pc : Nat) {sa : Option Addr} {sn : Nat} (sc : Nat) {la : Option Addr} {es : List Ev} (hl : Lists w 0 cT pa pn sa sn) (he : InE u la es) (hu : Below u.heap.size u w) (hn : es.length = 3) :
    Calls Try.prog 14 #[cv cT pa pn pc sa sn sc, .slice la 3 3] w fun e w' => ∃ u l, e = .returned u ∧ OwnI w' w.heap.size u l ∧ LefO cT es l ∧ Below w.heap.size w w' := by
  have := oleft_any pc sc 3 hl (he.below hu) (by omega)
  rw [hn] at this
  exact this
set_option maxHeartbeats 8000000 in
theorem awakeO_any (w : World) : Calls Try.prog 7 #[] w (Gives (.bool true) w) := by
  have hB0 := Blk.made w 39 #[.int .i64 1, .int .i64 1, .int .i64 0, .int .i64 0, .int .i64 0, .int .i64 1, .int .i64 1, .int .i64 1, .int .i64 1, .int .i64 0, .int .i64 13, .int .i64 0, .int .i64 1, .int .i64 0, .int .i64 0]
  have HX := Lib.hid hB0
  have HB := Lib.hid (below_one w (.cells #[.int .i64 1, .int .i64 1, .int .i64 0, .int .i64 0, .int .i64 0, .int .i64 1, .int .i64 1, .int .i64 1, .int .i64 1, .int .i64 0, .int .i64 13, .int .i64 0, .int .i64 1, .int .i64 0, .int .i64 0] 39))
  have hs1 : w.heap.size < (w.alloc (.cells #[.int .i64 1, .int .i64 1, .int .i64 0, .int .i64 0, .int .i64 0, .int .i64 1, .int .i64 1, .int .i64 1, .int .i64 1, .int .i64 0, .int .i64 13, .int .i64 0, .int .i64 1, .int .i64 0, .int .i64 0] 39)).heap.size := by simp
  have HE := Lib.hid (show InE (w.alloc (.cells #[.int .i64 1, .int .i64 1, .int .i64 0, .int .i64 0, .int .i64 0, .int .i64 1, .int .i64 1, .int .i64 1, .int .i64 1, .int .i64 0, .int .i64 13, .int .i64 0, .int .i64 1, .int .i64 0, .int .i64 0] 39)) (some ⟨w.heap.size, 0, none⟩) eL from inE_blk hB0 (by unfold maxLen; decide))
  clear hB0
  go_enter Try.func7, Try.ntmps7
  go_upto_region 2 with fail
  generalize w.alloc (.cells #[.int .i64 1, .int .i64 1, .int .i64 0, .int .i64 0, .int .i64 0, .int .i64 1, .int .i64 1, .int .i64 1, .int .i64 1, .int .i64 0, .int .i64 13, .int .i64 0, .int .i64 1, .int .i64 0, .int .i64 0] 39) = W0 at *
  go_wp2_with (with_reducible refine (two_any _).mono ?_)
  rintro e w1 ⟨pa, pn, pc, sa, sn, sc, rfl, hl, hb1⟩
  have HL := Lib.hid hl
  have HB1 := Lib.hid hb1
  clear hl hb1
  go_wp2_with (with_reducible refine (ocheckT pc sc HL.out HE.out HB1.out rfl).mono ?_)
  rintro e w2 ⟨n, err, rfl, hc, hb2⟩
  obtain ⟨rfl, rfl⟩ := chkL hc
  have HB2 := Lib.hid (HB1.out.trans (hb2.mono HB1.out.size))
  clear hc hb2 HL HB1
  go_upto_region 3 with fail
  have hS0 : Below W0.heap.size W0 w2.drew := HB2.out.trans ((below_drew (Below.refl _ w2)).mono HB2.out.size)
  have hcell : ∀ u, Below W0.heap.size W0 u → ∀ j, u.cell? ⟨w.heap.size, j, none⟩ = (#[.int .i64 1, .int .i64 1, .int .i64 0, .int .i64 0, .int .i64 0, .int .i64 1, .int .i64 1, .int .i64 1, .int .i64 1, .int .i64 0, .int .i64 13, .int .i64 0, .int .i64 1, .int .i64 0, .int .i64 0] : Array Value)[j]? := fun u hu j => (hu.cell (p := ⟨w.heap.size, j, none⟩) hs1).trans (HX.out.at_ j)
  refine wp_region_held_drew (S := (fun u => Below W0.heap.size W0 u)) (by kernel_rfl) hS0 (fun _ => ?_)
  change wpAnyH _ _ _ _ _ 15 #[false, false, false, false, false, false, false, false, false, false, false, false, false, false, false] _ (World.drew _)
  generalize w2.drew = W at *
  refine wpAnyH_take (i := 1) (v := .slice (some ⟨w.heap.size, 0, none⟩) 3 3) rfl (by kernel_rfl) (by kernel_rfl) (by kernel_rfl) (fun _ _ _ h => h) (Or.inl ⟨by rfl, fun u hu => by (go_simp)⟩) hS0 ?_
  simp only [List.getElem_toArray, List.getElem_cons_succ, List.getElem_cons_zero, Act.put, List.setIfInBounds_toArray, List.set_cons_zero, List.set_cons_succ]
  refine wpAnyH_take (i := 2) (v := .pointer (some ⟨w.heap.size, 0, none⟩)) rfl (by kernel_rfl) (by kernel_rfl) (by kernel_rfl) (fun _ _ _ h => h) (Or.inl ⟨by rfl, fun u hu => by (go_simp)⟩) hS0 ?_
  simp only [List.getElem_toArray, List.getElem_cons_succ, List.getElem_cons_zero, Act.put, List.setIfInBounds_toArray, List.set_cons_zero, List.set_cons_succ]
  refine wpAnyH_take (i := 3) (v := .agg #[.int .i64 1, .int .i64 1, .int .i64 0, .int .i64 0, .int .i64 0]) rfl (by kernel_rfl) (by kernel_rfl) (by kernel_rfl) (fun _ _ _ h => h) (Or.inl ⟨by rfl, fun u hu => by (have z0 : u.cell? ⟨w.heap.size, 0, none⟩ = _ := hcell u hu 0; simp at z0; have z1 : u.cell? ⟨w.heap.size, 1, none⟩ = _ := hcell u hu 1; simp at z1; have z2 : u.cell? ⟨w.heap.size, 2, none⟩ = _ := hcell u hu 2; simp at z2; have z3 : u.cell? ⟨w.heap.size, 3, none⟩ = _ := hcell u hu 3; simp at z3; have z4 : u.cell? ⟨w.heap.size, 4, none⟩ = _ := hcell u hu 4; simp at z4; go_simp)⟩) hS0 ?_
  simp only [List.getElem_toArray, List.getElem_cons_succ, List.getElem_cons_zero, Act.put, List.setIfInBounds_toArray, List.set_cons_zero, List.set_cons_succ]
  refine wpAnyH_take (i := 4) (v := .slice (some ⟨w.heap.size, 0, none⟩) 3 3) rfl (by kernel_rfl) (by kernel_rfl) (by kernel_rfl) (fun _ _ _ h => h) (Or.inl ⟨by rfl, fun u hu => by (go_simp)⟩) hS0 ?_
  simp only [List.getElem_toArray, List.getElem_cons_succ, List.getElem_cons_zero, Act.put, List.setIfInBounds_toArray, List.set_cons_zero, List.set_cons_succ]
  refine wpAnyH_take (i := 5) (v := .pointer (some ⟨w.heap.size, 5, none⟩)) rfl (by kernel_rfl) (by kernel_rfl) (by kernel_rfl) (fun _ _ _ h => h) (Or.inl ⟨by rfl, fun u hu => by (go_simp)⟩) hS0 ?_
  simp only [List.getElem_toArray, List.getElem_cons_succ, List.getElem_cons_zero, Act.put, List.setIfInBounds_toArray, List.set_cons_zero, List.set_cons_succ]
  refine wpAnyH_take (i := 6) (v := .agg #[.int .i64 1, .int .i64 1, .int .i64 1, .int .i64 1, .int .i64 0]) rfl (by kernel_rfl) (by kernel_rfl) (by kernel_rfl) (fun _ _ _ h => h) (Or.inl ⟨by rfl, fun u hu => by (have z5 : u.cell? ⟨w.heap.size, 5, none⟩ = _ := hcell u hu 5; simp at z5; have z6 : u.cell? ⟨w.heap.size, 6, none⟩ = _ := hcell u hu 6; simp at z6; have z7 : u.cell? ⟨w.heap.size, 7, none⟩ = _ := hcell u hu 7; simp at z7; have z8 : u.cell? ⟨w.heap.size, 8, none⟩ = _ := hcell u hu 8; simp at z8; have z9 : u.cell? ⟨w.heap.size, 9, none⟩ = _ := hcell u hu 9; simp at z9; go_simp)⟩) hS0 ?_
  simp only [List.getElem_toArray, List.getElem_cons_succ, List.getElem_cons_zero, Act.put, List.setIfInBounds_toArray, List.set_cons_zero, List.set_cons_succ]
  refine wpAnyH_take (i := 7) (v := .agg #[.int .i64 13, .int .i64 0, .int .i64 0, .int .i64 0, .int .i64 0]) rfl (by kernel_rfl) (by kernel_rfl) (by kernel_rfl) (fun _ _ _ h => h) (Or.inl ⟨by rfl, fun u hu => by (go_simp)⟩) hS0 ?_
  simp only [List.getElem_toArray, List.getElem_cons_succ, List.getElem_cons_zero, Act.put, List.setIfInBounds_toArray, List.set_cons_zero, List.set_cons_succ]
  refine wpAnyH_ready (rs := [0, 8]) (by kernel_rfl) (by simp) ?_
  refine AllReadyH.cons rfl (fun K hK => ?_) (AllReadyH.cons rfl (fun K hK => ?_) AllReadyH.nil)
  · go_simp
    go_at_call 10
    (with_reducible refine (two_any _).mono ?_)
    rintro e w3 ⟨qa, qn, qc, ra, rn, rc, rfl, hl3, hb3⟩
    have hS3 : Below W0.heap.size W0 w3 := hS0.trans (hb3.mono hS0.size)
    refine hK.out _ _ hS3 (fun _ => ?_)
    clear hK K
    simp only [List.setIfInBounds_toArray, List.set_cons_zero, List.set_cons_succ]
    refine wpAnyH_ready (rs := [8]) (by kernel_rfl) (by simp) ?_
    refine AllReadyH.cons rfl (fun K hK => ?_) AllReadyH.nil
    go_simp
    have hS4 : Below W0.heap.size W0 (w3.alloc (.cells #[.int .i64 1, .int .i64 1, .int .i64 0, .int .i64 0, .int .i64 0, .int .i64 1, .int .i64 1, .int .i64 1, .int .i64 1, .int .i64 0, .int .i64 13, .int .i64 0, .int .i64 0, .int .i64 0, .int .i64 0] 39)) := hS3.trans ((below_one w3 (.cells #[.int .i64 1, .int .i64 1, .int .i64 0, .int .i64 0, .int .i64 0, .int .i64 1, .int .i64 1, .int .i64 1, .int .i64 1, .int .i64 0, .int .i64 13, .int .i64 0, .int .i64 0, .int .i64 0, .int .i64 0] 39)).mono hS3.size)
    have hE4 : InE (w3.alloc (.cells #[.int .i64 1, .int .i64 1, .int .i64 0, .int .i64 0, .int .i64 0, .int .i64 1, .int .i64 1, .int .i64 1, .int .i64 1, .int .i64 0, .int .i64 13, .int .i64 0, .int .i64 0, .int .i64 0, .int .i64 0] 39)) (some ⟨w3.heap.size, 0, none⟩) eM := inE_blk (Blk.made w3 39 #[.int .i64 1, .int .i64 1, .int .i64 0, .int .i64 0, .int .i64 0, .int .i64 1, .int .i64 1, .int .i64 1, .int .i64 1, .int .i64 0, .int .i64 13, .int .i64 0, .int .i64 0, .int .i64 0, .int .i64 0]) (by unfold maxLen; decide)
    have hl4 := hl3.below (below_one w3 (.cells #[.int .i64 1, .int .i64 1, .int .i64 0, .int .i64 0, .int .i64 0, .int .i64 1, .int .i64 1, .int .i64 1, .int .i64 1, .int .i64 0, .int .i64 13, .int .i64 0, .int .i64 0, .int .i64 0, .int .i64 0] 39))
    refine hK.out _ _ hS4 (fun _ => ?_)
    clear hK K
    simp only [List.setIfInBounds_toArray, List.set_cons_zero, List.set_cons_succ]
    generalize w3.alloc (.cells #[.int .i64 1, .int .i64 1, .int .i64 0, .int .i64 0, .int .i64 0, .int .i64 1, .int .i64 1, .int .i64 1, .int .i64 1, .int .i64 0, .int .i64 13, .int .i64 0, .int .i64 0, .int .i64 0, .int .i64 0] 39) = w4 at *
    refine wpAnyH_ready (rs := [9]) (by kernel_rfl) (by simp) ?_
    refine AllReadyH.cons rfl (fun K hK => ?_) AllReadyH.nil
    go_simp
    go_at_call 13
    (with_reducible refine (ocheckT qc rc hl4 hE4 (Below.refl _ _) rfl).mono ?_)
    rintro e w5 ⟨n, err, rfl, hc, hb5⟩
    obtain ⟨rfl, rfl⟩ := chkM hc
    have hS5 : Below W0.heap.size W0 w5 := hS4.trans (hb5.mono hS4.size)
    refine hK.out _ _ hS5 (fun _ => ?_)
    clear hK K
    simp only [List.setIfInBounds_toArray, List.set_cons_zero, List.set_cons_succ]
    refine wpAnyH_take (i := 10) (v := .tuple #[.int .i64 2, .int .i64 6]) rfl (by kernel_rfl) (by kernel_rfl) (by kernel_rfl) (fun _ _ _ h => h) (Or.inl ⟨by rfl, fun u hu => by (go_simp)⟩) hS5 ?_
    simp only [List.getElem_toArray, List.getElem_cons_succ, List.getElem_cons_zero, Act.put, List.setIfInBounds_toArray, List.set_cons_zero, List.set_cons_succ]
    refine wpAnyH_take (i := 11) (v := .int .i64 2) rfl (by kernel_rfl) (by kernel_rfl) (by kernel_rfl) (fun _ _ _ h => h) (Or.inl ⟨by rfl, fun u hu => by (go_simp)⟩) hS5 ?_
    simp only [List.getElem_toArray, List.getElem_cons_succ, List.getElem_cons_zero, Act.put, List.setIfInBounds_toArray, List.set_cons_zero, List.set_cons_succ]
    refine wpAnyH_take (i := 12) (v := .int .i64 6) rfl (by kernel_rfl) (by kernel_rfl) (by kernel_rfl) (fun _ _ _ h => h) (Or.inl ⟨by rfl, fun u hu => by (go_simp)⟩) hS5 ?_
    simp only [List.getElem_toArray, List.getElem_cons_succ, List.getElem_cons_zero, Act.put, List.setIfInBounds_toArray, List.set_cons_zero, List.set_cons_succ]
    refine wpAnyH_ready (rs := [13]) (by kernel_rfl) (by simp) ?_
    refine AllReadyH.cons rfl (fun K hK => ?_) AllReadyH.nil
    go_simp
    refine hK.out _ _ hS5 (fun _ => ?_)
    clear hK K
    simp only [List.setIfInBounds_toArray, List.set_cons_zero, List.set_cons_succ]
    refine wpAnyH_ready (rs := [14]) (by kernel_rfl) (by simp) ?_
    refine AllReadyH.cons rfl (fun K hK => ?_) AllReadyH.nil
    go_simp
    refine hK.out _ _ hS5 (fun _ => ?_)
    clear hK K
    simp only [List.setIfInBounds_toArray, List.set_cons_zero, List.set_cons_succ]
    refine wpAnyH_done (by kernel_rfl) ?_ _
    clear hcell hS0
    have HS5 := Lib.hid hS5
    clear hS5
    go_wp2_with (with_reducible refine (two_any _).mono ?_)
    rintro e w6 ⟨ga, gn, gc, ha, hn, hc6, rfl, hl6, hb6⟩
    have HS6 := Lib.hid (HS5.out.trans (hb6.mono HS5.out.size))
    have HL6 := Lib.hid hl6
    clear hl6 hb6
    go_wp2_with (with_reducible refine (oleftT gc hc6 HL6.out HE.out HS6.out rfl).mono ?_)
    rintro e w7 ⟨u7, l7, rfl, hu7, hlf, hb7⟩
    obtain rfl := lefL hlf
    have HS7 := Lib.hid (HS6.out.trans (hb7.mono HS6.out.size))
    obtain ⟨a7, c7, rfl, hi7⟩ := own_ints hu7
    have hi8 : InInts w7 a7 1 [0] := hi7
    have hk7 := keepints_any (hi8.below (below_one w7 (.cells #[.int .i64 0] 3))) (ints_zero (Blk.made w7 3 #[.int .i64 0])) c7 1
    have HK := Lib.hid hk7
    have HB8 := Lib.hid (HS7.out.trans ((below_one w7 (.cells #[.int .i64 0] 3)).mono HS7.out.size))
    clear hu7 hlf hb7 hi7 hi8 hk7
    go_wp2_with (with_reducible refine HK.out.mono ?_)
    rintro e w8 ⟨rfl, nd, rfl⟩
    rw [decide_eq_true rfl]
    go_wp2
    go_ret
    exact ⟨rfl, HB.out.trans ((HB8.out.trans ((below_drewN _ nd).mono HB8.out.size)).mono (Nat.le_of_lt hs1))⟩
  · go_simp
    have hS4 : Below W0.heap.size W0 (W.alloc (.cells #[.int .i64 1, .int .i64 1, .int .i64 0, .int .i64 0, .int .i64 0, .int .i64 1, .int .i64 1, .int .i64 1, .int .i64 1, .int .i64 0, .int .i64 13, .int .i64 0, .int .i64 0, .int .i64 0, .int .i64 0] 39)) := hS0.trans ((below_one W (.cells #[.int .i64 1, .int .i64 1, .int .i64 0, .int .i64 0, .int .i64 0, .int .i64 1, .int .i64 1, .int .i64 1, .int .i64 1, .int .i64 0, .int .i64 13, .int .i64 0, .int .i64 0, .int .i64 0, .int .i64 0] 39)).mono hS0.size)
    have hE4 : InE (W.alloc (.cells #[.int .i64 1, .int .i64 1, .int .i64 0, .int .i64 0, .int .i64 0, .int .i64 1, .int .i64 1, .int .i64 1, .int .i64 1, .int .i64 0, .int .i64 13, .int .i64 0, .int .i64 0, .int .i64 0, .int .i64 0] 39)) (some ⟨W.heap.size, 0, none⟩) eM := inE_blk (Blk.made W 39 #[.int .i64 1, .int .i64 1, .int .i64 0, .int .i64 0, .int .i64 0, .int .i64 1, .int .i64 1, .int .i64 1, .int .i64 1, .int .i64 0, .int .i64 13, .int .i64 0, .int .i64 0, .int .i64 0, .int .i64 0]) (by unfold maxLen; decide)
    refine hK.out _ _ hS4 (fun _ => ?_)
    clear hK K
    simp only [List.setIfInBounds_toArray, List.set_cons_zero, List.set_cons_succ]
    generalize W.alloc (.cells #[.int .i64 1, .int .i64 1, .int .i64 0, .int .i64 0, .int .i64 0, .int .i64 1, .int .i64 1, .int .i64 1, .int .i64 1, .int .i64 0, .int .i64 13, .int .i64 0, .int .i64 0, .int .i64 0, .int .i64 0] 39) = w4 at *
    refine wpAnyH_ready (rs := [0]) (by kernel_rfl) (by simp) ?_
    refine AllReadyH.cons rfl (fun K hK => ?_) AllReadyH.nil
    go_simp
    go_at_call 10
    (with_reducible refine (two_any _).mono ?_)
    rintro e w3 ⟨qa, qn, qc, ra, rn, rc, rfl, hl3, hb3⟩
    have hS3 : Below W0.heap.size W0 w3 := hS4.trans (hb3.mono hS4.size)
    refine hK.out _ _ hS3 (fun _ => ?_)
    clear hK K
    simp only [List.setIfInBounds_toArray, List.set_cons_zero, List.set_cons_succ]
    refine wpAnyH_ready (rs := [9]) (by kernel_rfl) (by simp) ?_
    refine AllReadyH.cons rfl (fun K hK => ?_) AllReadyH.nil
    go_simp
    go_at_call 13
    (with_reducible refine (ocheckT qc rc hl3 hE4 hb3 rfl).mono ?_)
    rintro e w5 ⟨n, err, rfl, hc, hb5⟩
    obtain ⟨rfl, rfl⟩ := chkM hc
    have hS5 : Below W0.heap.size W0 w5 := hS3.trans (hb5.mono hS3.size)
    refine hK.out _ _ hS5 (fun _ => ?_)
    clear hK K
    simp only [List.setIfInBounds_toArray, List.set_cons_zero, List.set_cons_succ]
    refine wpAnyH_take (i := 10) (v := .tuple #[.int .i64 2, .int .i64 6]) rfl (by kernel_rfl) (by kernel_rfl) (by kernel_rfl) (fun _ _ _ h => h) (Or.inl ⟨by rfl, fun u hu => by (go_simp)⟩) hS5 ?_
    simp only [List.getElem_toArray, List.getElem_cons_succ, List.getElem_cons_zero, Act.put, List.setIfInBounds_toArray, List.set_cons_zero, List.set_cons_succ]
    refine wpAnyH_take (i := 11) (v := .int .i64 2) rfl (by kernel_rfl) (by kernel_rfl) (by kernel_rfl) (fun _ _ _ h => h) (Or.inl ⟨by rfl, fun u hu => by (go_simp)⟩) hS5 ?_
    simp only [List.getElem_toArray, List.getElem_cons_succ, List.getElem_cons_zero, Act.put, List.setIfInBounds_toArray, List.set_cons_zero, List.set_cons_succ]
    refine wpAnyH_take (i := 12) (v := .int .i64 6) rfl (by kernel_rfl) (by kernel_rfl) (by kernel_rfl) (fun _ _ _ h => h) (Or.inl ⟨by rfl, fun u hu => by (go_simp)⟩) hS5 ?_
    simp only [List.getElem_toArray, List.getElem_cons_succ, List.getElem_cons_zero, Act.put, List.setIfInBounds_toArray, List.set_cons_zero, List.set_cons_succ]
    refine wpAnyH_ready (rs := [13]) (by kernel_rfl) (by simp) ?_
    refine AllReadyH.cons rfl (fun K hK => ?_) AllReadyH.nil
    go_simp
    refine hK.out _ _ hS5 (fun _ => ?_)
    clear hK K
    simp only [List.setIfInBounds_toArray, List.set_cons_zero, List.set_cons_succ]
    refine wpAnyH_ready (rs := [14]) (by kernel_rfl) (by simp) ?_
    refine AllReadyH.cons rfl (fun K hK => ?_) AllReadyH.nil
    go_simp
    refine hK.out _ _ hS5 (fun _ => ?_)
    clear hK K
    simp only [List.setIfInBounds_toArray, List.set_cons_zero, List.set_cons_succ]
    refine wpAnyH_done (by kernel_rfl) ?_ _
    clear hcell hS0
    have HS5 := Lib.hid hS5
    clear hS5
    go_wp2_with (with_reducible refine (two_any _).mono ?_)
    rintro e w6 ⟨ga, gn, gc, ha, hn, hc6, rfl, hl6, hb6⟩
    have HS6 := Lib.hid (HS5.out.trans (hb6.mono HS5.out.size))
    have HL6 := Lib.hid hl6
    clear hl6 hb6
    go_wp2_with (with_reducible refine (oleftT gc hc6 HL6.out HE.out HS6.out rfl).mono ?_)
    rintro e w7 ⟨u7, l7, rfl, hu7, hlf, hb7⟩
    obtain rfl := lefL hlf
    have HS7 := Lib.hid (HS6.out.trans (hb7.mono HS6.out.size))
    obtain ⟨a7, c7, rfl, hi7⟩ := own_ints hu7
    have hi8 : InInts w7 a7 1 [0] := hi7
    have hk7 := keepints_any (hi8.below (below_one w7 (.cells #[.int .i64 0] 3))) (ints_zero (Blk.made w7 3 #[.int .i64 0])) c7 1
    have HK := Lib.hid hk7
    have HB8 := Lib.hid (HS7.out.trans ((below_one w7 (.cells #[.int .i64 0] 3)).mono HS7.out.size))
    clear hu7 hlf hb7 hi7 hi8 hk7
    go_wp2_with (with_reducible refine HK.out.mono ?_)
    rintro e w8 ⟨rfl, nd, rfl⟩
    rw [decide_eq_true rfl]
    go_wp2
    go_ret
    exact ⟨rfl, HB.out.trans ((HB8.out.trans ((below_drewN _ nd).mono HB8.out.size)).mono (Nat.le_of_lt hs1))⟩
end Go.Proofs.Ytpmdmeolehabjaa
