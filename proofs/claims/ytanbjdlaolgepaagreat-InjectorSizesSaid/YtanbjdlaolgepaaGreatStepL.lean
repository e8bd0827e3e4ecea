/-
  The reference's Step of a machine with one frame, given the contract of leaf. (Written by wip/gen_stepl.py.)
-/
import Derived.Test.YtanbjdlaolgepaaGreatMgAH
import Derived.Test.YtanbjdlaolgepaaGreatLeafD
import Derived.Test.YtanbjdlaolgepaaGreatInsert8
import Derived.Test.YtanbjdlaolgepaaGreatRemU
namespace Go.Proofs.YtanbjdlaolgepaaGreat
open Go Go.RowKit
set_option linter.unusedSimpArgs false
set_option linter.unusedVariables false

set_option maxRecDepth 100000 in
set_option maxHeartbeats 16000000 in
theorem step_leaf {B p m g cap : Nat} {w : World} {post : List Value} {a : EnvA} {s s1 : St} {es es1 : List Ev} {rs rs1 : List Rec} {f f1 : Fra} {R : Res} (he : EnvF B w p a s es rs) (hm : Mach1 B w m g cap post f) (hk : leafK f.kd)
    (hlf : ∀ W, EnvF B W p a s es rs → FrameP W g 0 [] post f → Calls Tryz.prog 56 #[.pointer (some ⟨p, 0, none⟩), .pointer (some ⟨g, 0, none⟩)] W (Line B p g 0 [] post a R s1 es1 rs1 f1 W)) :
    Calls Tryz.prog 34 #[.pointer (some ⟨m, 0, none⟩), .pointer (some ⟨p, 0, none⟩)] w (Stepped B p m g cap post a s1 f1 R es1 rs1 w) := by
  have HLF := Lib.hid hlf
  clear hlf
  have c0 : w.cell? ⟨m, 0, none⟩ = some (.slice (some ⟨g, 0, none⟩) 1 cap) := hm.blk.at_ 0
  have c1 : w.cell? ⟨m, 1, none⟩ = some (.bool false) := hm.blk.at_ 1
  have HE := Lib.hid he
  have HM := Lib.hid hm
  have HK := Lib.hid hk
  obtain ⟨hcap0, hcap1⟩ := hm.hc
  clear he hm hk
  go_enter Tryz.func34, Tryz.ntmps34
  go_wp2_with fail
  go_loopw [6] (fun _ wr => wr = w) (fun _ _ => 0)
  case atStart => rfl
  case round =>
    obtain rfl := hrel
    go_upto_region 3 with fail
    go_cut [6] from 12 to 40 (fun s6 wx => Entered wr s6 wx)
    case first =>
      have X0 := Lib.hid (show Blk wr.drew m 100 (mcells g 1 cap false 0 0) from HM.out.blk)
      have F0 := Lib.hid (HM.out.fr.below (below_drew (Below.refl _ _)))
      have B0 := Lib.hid (below_drew (Below.refl wr.heap.size wr))
      clear c0 c1
      refine wp_region_held_drew (S := (fun u => u.cell? ⟨m, 0, none⟩ = some (.slice (some ⟨g, 0, none⟩) 1 cap))) (by kernel_rfl) (X0.out.at_ 0) (fun _ => ?_)
      change wpAnyH _ _ _ _ _ 19 #[false, false, false, false, false, false, false, false, false, false, false, false, false, false, false, false, false, false, false] _ (World.drew _)
      refine wpAnyH_take (i := 0) (v := .pointer (some ⟨p, 0, none⟩)) rfl (by kernel_rfl) (by kernel_rfl) (by kernel_rfl) (fun _ _ _ h => h) (Or.inl ⟨by rfl, fun u hu => by (go_simp)⟩) (X0.out.at_ 0) ?_
      simp only [List.getElem_toArray, List.getElem_cons_succ, List.getElem_cons_zero, Act.put, List.setIfInBounds_toArray, List.set_cons_zero, List.set_cons_succ]
      refine wpAnyH_take (i := 1) (v := .pointer (some ⟨m, 0, none⟩)) rfl (by kernel_rfl) (by kernel_rfl) (by kernel_rfl) (fun _ _ _ h => h) (Or.inl ⟨by rfl, fun u hu => by (go_simp)⟩) (X0.out.at_ 0) ?_
      simp only [List.getElem_toArray, List.getElem_cons_succ, List.getElem_cons_zero, Act.put, List.setIfInBounds_toArray, List.set_cons_zero, List.set_cons_succ]
      refine wpAnyH_take (i := 2) (v := .pointer (some ⟨m, 0, none⟩)) rfl (by kernel_rfl) (by kernel_rfl) (by kernel_rfl) (fun _ _ _ h => h) (Or.inl ⟨by rfl, fun u hu => by (go_simp)⟩) (X0.out.at_ 0) ?_
      simp only [List.getElem_toArray, List.getElem_cons_succ, List.getElem_cons_zero, Act.put, List.setIfInBounds_toArray, List.set_cons_zero, List.set_cons_succ]
      refine wpAnyH_take (i := 3) (v := .pointer (some ⟨m, 0, none⟩)) rfl (by kernel_rfl) (by kernel_rfl) (by kernel_rfl) (fun _ _ _ h => h) (Or.inl ⟨by rfl, fun u hu => by (go_simp)⟩) (X0.out.at_ 0) ?_
      simp only [List.getElem_toArray, List.getElem_cons_succ, List.getElem_cons_zero, Act.put, List.setIfInBounds_toArray, List.set_cons_zero, List.set_cons_succ]
      refine wpAnyH_take (i := 4) (v := .slice (some ⟨g, 0, none⟩) 1 cap) rfl (by kernel_rfl) (by kernel_rfl) (by kernel_rfl) (fun _ _ _ h => h) (Or.inl ⟨by rfl, fun u hu => by (have hu2 : u.cell? ⟨m, 0, none⟩ = some (.slice (some ⟨g, 0, none⟩) 1 cap) := hu; go_simp)⟩) (X0.out.at_ 0) ?_
      simp only [List.getElem_toArray, List.getElem_cons_succ, List.getElem_cons_zero, Act.put, List.setIfInBounds_toArray, List.set_cons_zero, List.set_cons_succ]
      refine wpAnyH_take (i := 5) (v := .pointer (some ⟨m, 0, none⟩)) rfl (by kernel_rfl) (by kernel_rfl) (by kernel_rfl) (fun _ _ _ h => h) (Or.inl ⟨by rfl, fun u hu => by (go_simp)⟩) (X0.out.at_ 0) ?_
      simp only [List.getElem_toArray, List.getElem_cons_succ, List.getElem_cons_zero, Act.put, List.setIfInBounds_toArray, List.set_cons_zero, List.set_cons_succ]
      refine wpAnyH_take (i := 6) (v := .pointer (some ⟨m, 0, none⟩)) rfl (by kernel_rfl) (by kernel_rfl) (by kernel_rfl) (fun _ _ _ h => h) (Or.inl ⟨by rfl, fun u hu => by (go_simp)⟩) (X0.out.at_ 0) ?_
      simp only [List.getElem_toArray, List.getElem_cons_succ, List.getElem_cons_zero, Act.put, List.setIfInBounds_toArray, List.set_cons_zero, List.set_cons_succ]
      refine wpAnyH_take (i := 7) (v := .pointer (some ⟨m, 0, none⟩)) rfl (by kernel_rfl) (by kernel_rfl) (by kernel_rfl) (fun _ _ _ h => h) (Or.inl ⟨by rfl, fun u hu => by (go_simp)⟩) (X0.out.at_ 0) ?_
      simp only [List.getElem_toArray, List.getElem_cons_succ, List.getElem_cons_zero, Act.put, List.setIfInBounds_toArray, List.set_cons_zero, List.set_cons_succ]
      refine wpAnyH_take (i := 8) (v := .slice (some ⟨g, 0, none⟩) 1 cap) rfl (by kernel_rfl) (by kernel_rfl) (by kernel_rfl) (fun _ _ _ h => h) (Or.inl ⟨by rfl, fun u hu => by (have hu2 : u.cell? ⟨m, 0, none⟩ = some (.slice (some ⟨g, 0, none⟩) 1 cap) := hu; go_simp)⟩) (X0.out.at_ 0) ?_
      simp only [List.getElem_toArray, List.getElem_cons_succ, List.getElem_cons_zero, Act.put, List.setIfInBounds_toArray, List.set_cons_zero, List.set_cons_succ]
      refine wpAnyH_take (i := 9) (v := .int .i64 1) rfl (by kernel_rfl) (by kernel_rfl) (by kernel_rfl) (fun _ _ _ h => h) (Or.inl ⟨by rfl, fun u hu => by (go_simp)⟩) (X0.out.at_ 0) ?_
      simp only [List.getElem_toArray, List.getElem_cons_succ, List.getElem_cons_zero, Act.put, List.setIfInBounds_toArray, List.set_cons_zero, List.set_cons_succ]
      refine wpAnyH_take (i := 10) (v := .int .i64 0) rfl (by kernel_rfl) (by kernel_rfl) (by kernel_rfl) (fun _ _ _ h => h) (Or.inl ⟨by rfl, fun u hu => by (go_simp; exact IntWalk.i64_in 0 (by omega))⟩) (X0.out.at_ 0) ?_
      simp only [List.getElem_toArray, List.getElem_cons_succ, List.getElem_cons_zero, Act.put, List.setIfInBounds_toArray, List.set_cons_zero, List.set_cons_succ]
      refine wpAnyH_take (i := 11) (v := .pointer (some ⟨g, 0, none⟩)) rfl (by kernel_rfl) (by kernel_rfl) (by kernel_rfl) (fun _ _ _ h => h) (Or.inl ⟨by rfl, fun u hu => by (go_simp)⟩) (X0.out.at_ 0) ?_
      simp only [List.getElem_toArray, List.getElem_cons_succ, List.getElem_cons_zero, Act.put, List.setIfInBounds_toArray, List.set_cons_zero, List.set_cons_succ]
      refine wpAnyH_ready (rs := [12, 16]) (by kernel_rfl) (by simp) ?_
      refine AllReadyH.cons rfl (fun K hK => ?_) (AllReadyH.cons rfl (fun K hK => ?_) AllReadyH.nil)
      · go_simp
        go_at_call 55
        (with_reducible refine (enter_leaf F0.out HK.out).mono ?_)
        rintro e w1 ⟨rfl, b1⟩
        have X1 := Lib.hid (X0.out.below b1)
        have F1 := Lib.hid (F0.out.below b1)
        have B1 := Lib.hid (B0.out.trans (b1.mono B0.out.size))
        clear b1
        refine hK.out _ _ (X1.out.at_ 0) (fun _ => ?_)
        clear hK K
        simp only [List.setIfInBounds_toArray, List.set_cons_zero, List.set_cons_succ]
        refine wpAnyH_take (i := 13) (v := .tuple #[.agg zfc, .bool false]) rfl (by kernel_rfl) (by kernel_rfl) (by kernel_rfl) (fun _ _ _ h => h) (Or.inl ⟨by rfl, fun u hu => by (go_simp)⟩) (X1.out.at_ 0) ?_
        simp only [List.getElem_toArray, List.getElem_cons_succ, List.getElem_cons_zero, Act.put, List.setIfInBounds_toArray, List.set_cons_zero, List.set_cons_succ]
        refine wpAnyH_take (i := 14) (v := .agg zfc) rfl (by kernel_rfl) (by kernel_rfl) (by kernel_rfl) (fun _ _ _ h => h) (Or.inl ⟨by rfl, fun u hu => by (go_simp)⟩) (X1.out.at_ 0) ?_
        simp only [List.getElem_toArray, List.getElem_cons_succ, List.getElem_cons_zero, Act.put, List.setIfInBounds_toArray, List.set_cons_zero, List.set_cons_succ]
        refine wpAnyH_take (i := 15) (v := .bool false) rfl (by kernel_rfl) (by kernel_rfl) (by kernel_rfl) (fun _ _ _ h => h) (Or.inl ⟨by rfl, fun u hu => by (go_simp)⟩) (X1.out.at_ 0) ?_
        simp only [List.getElem_toArray, List.getElem_cons_succ, List.getElem_cons_zero, Act.put, List.setIfInBounds_toArray, List.set_cons_zero, List.set_cons_succ]
        refine wpAnyH_ready (rs := [16]) (by kernel_rfl) (by simp) ?_
        refine AllReadyH.cons rfl (fun K hK => ?_) AllReadyH.nil
        go_simp
        have hb := below_one (w1) (.cells zfc 64)
        have N2 := Lib.hid (Blk.made (w1) 64 zfc)
        have X2 := Lib.hid (X1.out.below hb)
        have F2 := Lib.hid (F1.out.below hb)
        have B2 := Lib.hid (B1.out.trans (hb.mono B1.out.size))
        clear hb
        refine hK.out _ _ (X2.out.at_ 0) (fun _ => ?_)
        clear hK K
        simp only [List.setIfInBounds_toArray, List.set_cons_zero, List.set_cons_succ]
        generalize hW2 : w1.alloc (.cells zfc 64) = W2 at *
        have hb1 := B1.out.size
        have hmlt := HM.out.blk.lt
        refine wpAnyH_ready (rs := [17]) (by kernel_rfl) (by simp) ?_
        refine AllReadyH.cons rfl (fun K hK => ?_) AllReadyH.nil
        rw [if_pos (show Region.wanted _ _ = true by rfl)]
        refine wp_store_row 64 (.tmp 5) (.tmp 26) rfl (w1.heap.size) zfc rfl rfl 64 zfc N2.out (by kernel_rfl) rfl (by kernel_rfl) ?_
        have hf18 := fr_row8 (W2) (w1.heap.size) zfc
        have hne : m ≠ w1.heap.size := by have := hmlt; omega
        have X3 := Lib.hid (X2.out.of_same (hf18.block m X2.out.lt (by simpa using hne)))
        have B3 := Lib.hid (fr_below (Fr.drop (S := []) (Fr.old B2.out) hf18 (fun x hx => by simp at hx; have := hb1; omega)))
        clear hf18 hne
        refine hK.out _ _ (X3.out.at_ 0) (fun _ => ?_)
        clear hK K
        simp only [List.setIfInBounds_toArray, List.set_cons_zero, List.set_cons_succ]
        refine wpAnyH_take (i := 18) (v := .bool false) rfl (by kernel_rfl) (by kernel_rfl) (by kernel_rfl) (fun _ _ _ h => h) (Or.inl ⟨by rfl, fun u hu => by (go_simp)⟩) (X3.out.at_ 0) ?_
        simp only [List.getElem_toArray, List.getElem_cons_succ, List.getElem_cons_zero, Act.put, List.setIfInBounds_toArray, List.set_cons_zero, List.set_cons_succ]
        refine wpAnyH_done (by kernel_rfl) ?_ _
        go_wp2_with fail
        go_meet
        case rel => exact ⟨rfl, B3.out⟩
      · go_simp
        have hb : Below wr.drew.heap.size wr.drew (wr.alloc (.cells zfc 64)).drew := ⟨rfl, rfl, rfl, (below_one wr (.cells zfc 64)).size, (below_one wr (.cells zfc 64)).block⟩
        have N1 := Lib.hid (show Blk (wr.alloc (.cells zfc 64)).drew wr.heap.size 64 zfc from Blk.made wr _ _)
        have X1 := Lib.hid (X0.out.below hb)
        have F1 := Lib.hid (F0.out.below hb)
        have B1 := Lib.hid (B0.out.trans (hb.mono B0.out.size))
        clear hb
        refine hK.out _ _ (X1.out.at_ 0) (fun _ => ?_)
        clear hK K
        simp only [List.setIfInBounds_toArray, List.set_cons_zero, List.set_cons_succ]
        have hmlt := HM.out.blk.lt
        generalize (wr.alloc (.cells zfc 64)).drew = W1 at *
        refine wpAnyH_ready (rs := [12]) (by kernel_rfl) (by simp) ?_
        refine AllReadyH.cons rfl (fun K hK => ?_) AllReadyH.nil
        go_simp
        go_at_call 55
        (with_reducible refine (enter_leaf F1.out HK.out).mono ?_)
        rintro e w2 ⟨rfl, b1⟩
        have X2 := Lib.hid (X1.out.below b1)
        have F2 := Lib.hid (F1.out.below b1)
        have B2 := Lib.hid (B1.out.trans (b1.mono B1.out.size))
        have HBB := Lib.hid b1; clear b1
        have N2 := Lib.hid (N1.out.below HBB.out)
        refine hK.out _ _ (X2.out.at_ 0) (fun _ => ?_)
        clear hK K
        simp only [List.setIfInBounds_toArray, List.set_cons_zero, List.set_cons_succ]
        refine wpAnyH_take (i := 13) (v := .tuple #[.agg zfc, .bool false]) rfl (by kernel_rfl) (by kernel_rfl) (by kernel_rfl) (fun _ _ _ h => h) (Or.inl ⟨by rfl, fun u hu => by (go_simp)⟩) (X2.out.at_ 0) ?_
        simp only [List.getElem_toArray, List.getElem_cons_succ, List.getElem_cons_zero, Act.put, List.setIfInBounds_toArray, List.set_cons_zero, List.set_cons_succ]
        refine wpAnyH_take (i := 14) (v := .agg zfc) rfl (by kernel_rfl) (by kernel_rfl) (by kernel_rfl) (fun _ _ _ h => h) (Or.inl ⟨by rfl, fun u hu => by (go_simp)⟩) (X2.out.at_ 0) ?_
        simp only [List.getElem_toArray, List.getElem_cons_succ, List.getElem_cons_zero, Act.put, List.setIfInBounds_toArray, List.set_cons_zero, List.set_cons_succ]
        refine wpAnyH_take (i := 15) (v := .bool false) rfl (by kernel_rfl) (by kernel_rfl) (by kernel_rfl) (fun _ _ _ h => h) (Or.inl ⟨by rfl, fun u hu => by (go_simp)⟩) (X2.out.at_ 0) ?_
        simp only [List.getElem_toArray, List.getElem_cons_succ, List.getElem_cons_zero, Act.put, List.setIfInBounds_toArray, List.set_cons_zero, List.set_cons_succ]
        refine wpAnyH_ready (rs := [17]) (by kernel_rfl) (by simp) ?_
        refine AllReadyH.cons rfl (fun K hK => ?_) AllReadyH.nil
        rw [if_pos (show Region.wanted _ _ = true by rfl)]
        refine wp_store_row 64 (.tmp 5) (.tmp 26) rfl (wr.heap.size) zfc rfl rfl 64 zfc N2.out (by kernel_rfl) rfl (by kernel_rfl) ?_
        have hf18 := fr_row8 (w2) (wr.heap.size) zfc
        have hne : m ≠ wr.heap.size := by have := hmlt; omega
        have X3 := Lib.hid (X2.out.of_same (hf18.block m X2.out.lt (by simpa using hne)))
        have B3 := Lib.hid (fr_below (Fr.drop (S := []) (Fr.old B2.out) hf18 (fun x hx => by simp at hx; have := hmlt; omega)))
        clear hf18 hne
        refine hK.out _ _ (X3.out.at_ 0) (fun _ => ?_)
        clear hK K
        simp only [List.setIfInBounds_toArray, List.set_cons_zero, List.set_cons_succ]
        refine wpAnyH_take (i := 18) (v := .bool false) rfl (by kernel_rfl) (by kernel_rfl) (by kernel_rfl) (fun _ _ _ h => h) (Or.inl ⟨by rfl, fun u hu => by (go_simp)⟩) (X3.out.at_ 0) ?_
        simp only [List.getElem_toArray, List.getElem_cons_succ, List.getElem_cons_zero, Act.put, List.setIfInBounds_toArray, List.set_cons_zero, List.set_cons_succ]
        refine wpAnyH_done (by kernel_rfl) ?_ _
        go_wp2_with fail
        go_meet
        case rel => exact ⟨rfl, B3.out⟩
    case rest =>
      obtain ⟨rfl, hb⟩ := hcut
      have HE1 := Lib.hid (HE.out.below hb)
      have HX1 := Lib.hid (HM.out.blk.below hb)
      have HF1 := Lib.hid (HM.out.fr.below hb)
      have HB1 := Lib.hid hb
      clear hb c0 c1
      go_upto_region 7 with fail
      go_cut [7] from 41 to 53 (fun s7 wx => Leafed B p m g cap post a s1 f1 R es1 rs1 wr s7 wx)
      case first =>
        have X0 := Lib.hid (show Blk wc.drew m 100 (mcells g 1 cap false 0 0) from HX1.out)
        have F0 := Lib.hid (HF1.out.below (below_drew (Below.refl _ _)))
        have E0 := Lib.hid (HE1.out.below (below_drew (Below.refl _ _)))
        have K0 := Lib.hid (show Fr (g :: a.S p) wr wc.drew from Fr.old (below_drew HB1.out))
        refine wp_region_held_drew (S := (fun u => u.cell? ⟨m, 0, none⟩ = some (.slice (some ⟨g, 0, none⟩) 1 cap))) (by kernel_rfl) (X0.out.at_ 0) (fun _ => ?_)
        change wpAnyH _ _ _ _ _ 15 #[false, false, false, false, false, false, false, false, false, false, false, false, false, false, false] _ (World.drew _)
        refine wpAnyH_take (i := 0) (v := .pointer (some ⟨p, 0, none⟩)) rfl (by kernel_rfl) (by kernel_rfl) (by kernel_rfl) (fun _ _ _ h => h) (Or.inl ⟨by rfl, fun u hu => by (go_simp)⟩) (X0.out.at_ 0) ?_
        simp only [List.getElem_toArray, List.getElem_cons_succ, List.getElem_cons_zero, Act.put, List.setIfInBounds_toArray, List.set_cons_zero, List.set_cons_succ]
        refine wpAnyH_take (i := 1) (v := .pointer (some ⟨m, 0, none⟩)) rfl (by kernel_rfl) (by kernel_rfl) (by kernel_rfl) (fun _ _ _ h => h) (Or.inl ⟨by rfl, fun u hu => by (go_simp)⟩) (X0.out.at_ 0) ?_
        simp only [List.getElem_toArray, List.getElem_cons_succ, List.getElem_cons_zero, Act.put, List.setIfInBounds_toArray, List.set_cons_zero, List.set_cons_succ]
        refine wpAnyH_take (i := 2) (v := .pointer (some ⟨m, 0, none⟩)) rfl (by kernel_rfl) (by kernel_rfl) (by kernel_rfl) (fun _ _ _ h => h) (Or.inl ⟨by rfl, fun u hu => by (go_simp)⟩) (X0.out.at_ 0) ?_
        simp only [List.getElem_toArray, List.getElem_cons_succ, List.getElem_cons_zero, Act.put, List.setIfInBounds_toArray, List.set_cons_zero, List.set_cons_succ]
        refine wpAnyH_take (i := 3) (v := .pointer (some ⟨m, 0, none⟩)) rfl (by kernel_rfl) (by kernel_rfl) (by kernel_rfl) (fun _ _ _ h => h) (Or.inl ⟨by rfl, fun u hu => by (go_simp)⟩) (X0.out.at_ 0) ?_
        simp only [List.getElem_toArray, List.getElem_cons_succ, List.getElem_cons_zero, Act.put, List.setIfInBounds_toArray, List.set_cons_zero, List.set_cons_succ]
        refine wpAnyH_take (i := 4) (v := .slice (some ⟨g, 0, none⟩) 1 cap) rfl (by kernel_rfl) (by kernel_rfl) (by kernel_rfl) (fun _ _ _ h => h) (Or.inl ⟨by rfl, fun u hu => by (have hu2 : u.cell? ⟨m, 0, none⟩ = some (.slice (some ⟨g, 0, none⟩) 1 cap) := hu; go_simp)⟩) (X0.out.at_ 0) ?_
        simp only [List.getElem_toArray, List.getElem_cons_succ, List.getElem_cons_zero, Act.put, List.setIfInBounds_toArray, List.set_cons_zero, List.set_cons_succ]
        refine wpAnyH_take (i := 5) (v := .pointer (some ⟨m, 0, none⟩)) rfl (by kernel_rfl) (by kernel_rfl) (by kernel_rfl) (fun _ _ _ h => h) (Or.inl ⟨by rfl, fun u hu => by (go_simp)⟩) (X0.out.at_ 0) ?_
        simp only [List.getElem_toArray, List.getElem_cons_succ, List.getElem_cons_zero, Act.put, List.setIfInBounds_toArray, List.set_cons_zero, List.set_cons_succ]
        refine wpAnyH_take (i := 6) (v := .pointer (some ⟨m, 0, none⟩)) rfl (by kernel_rfl) (by kernel_rfl) (by kernel_rfl) (fun _ _ _ h => h) (Or.inl ⟨by rfl, fun u hu => by (go_simp)⟩) (X0.out.at_ 0) ?_
        simp only [List.getElem_toArray, List.getElem_cons_succ, List.getElem_cons_zero, Act.put, List.setIfInBounds_toArray, List.set_cons_zero, List.set_cons_succ]
        refine wpAnyH_take (i := 7) (v := .pointer (some ⟨m, 0, none⟩)) rfl (by kernel_rfl) (by kernel_rfl) (by kernel_rfl) (fun _ _ _ h => h) (Or.inl ⟨by rfl, fun u hu => by (go_simp)⟩) (X0.out.at_ 0) ?_
        simp only [List.getElem_toArray, List.getElem_cons_succ, List.getElem_cons_zero, Act.put, List.setIfInBounds_toArray, List.set_cons_zero, List.set_cons_succ]
        refine wpAnyH_take (i := 8) (v := .slice (some ⟨g, 0, none⟩) 1 cap) rfl (by kernel_rfl) (by kernel_rfl) (by kernel_rfl) (fun _ _ _ h => h) (Or.inl ⟨by rfl, fun u hu => by (have hu2 : u.cell? ⟨m, 0, none⟩ = some (.slice (some ⟨g, 0, none⟩) 1 cap) := hu; go_simp)⟩) (X0.out.at_ 0) ?_
        simp only [List.getElem_toArray, List.getElem_cons_succ, List.getElem_cons_zero, Act.put, List.setIfInBounds_toArray, List.set_cons_zero, List.set_cons_succ]
        refine wpAnyH_take (i := 9) (v := .int .i64 1) rfl (by kernel_rfl) (by kernel_rfl) (by kernel_rfl) (fun _ _ _ h => h) (Or.inl ⟨by rfl, fun u hu => by (go_simp)⟩) (X0.out.at_ 0) ?_
        simp only [List.getElem_toArray, List.getElem_cons_succ, List.getElem_cons_zero, Act.put, List.setIfInBounds_toArray, List.set_cons_zero, List.set_cons_succ]
        refine wpAnyH_take (i := 10) (v := .int .i64 0) rfl (by kernel_rfl) (by kernel_rfl) (by kernel_rfl) (fun _ _ _ h => h) (Or.inl ⟨by rfl, fun u hu => by (go_simp; exact IntWalk.i64_in 0 (by omega))⟩) (X0.out.at_ 0) ?_
        simp only [List.getElem_toArray, List.getElem_cons_succ, List.getElem_cons_zero, Act.put, List.setIfInBounds_toArray, List.set_cons_zero, List.set_cons_succ]
        refine wpAnyH_take (i := 11) (v := .pointer (some ⟨g, 0, none⟩)) rfl (by kernel_rfl) (by kernel_rfl) (by kernel_rfl) (fun _ _ _ h => h) (Or.inl ⟨by rfl, fun u hu => by (go_simp)⟩) (X0.out.at_ 0) ?_
        simp only [List.getElem_toArray, List.getElem_cons_succ, List.getElem_cons_zero, Act.put, List.setIfInBounds_toArray, List.set_cons_zero, List.set_cons_succ]
        refine wpAnyH_ready (rs := [12, 13]) (by kernel_rfl) (by simp) ?_
        refine AllReadyH.cons rfl (fun K hK => ?_) (AllReadyH.cons rfl (fun K hK => ?_) AllReadyH.nil)
        · go_simp
          go_at_call 56
          (with_reducible refine (HLF.out _ E0.out F0.out).mono ?_)
          rintro e w1 ⟨v1, rfl, he1, hf1, hfr, hv1⟩
          have hmg : m ≠ g := X0.out.apart F0.out.blk (by decide)
          have hmS : m ∉ a.S p := not_in_S E0.out X0.out (by decide) (by decide) (by decide) (by decide)
          have X1 := Lib.hid (X0.out.of_same (hfr.block m X0.out.lt (by simp only [List.mem_cons, not_or]; exact ⟨hmg, hmS⟩)))
          have E1 := Lib.hid he1
          have F1 := Lib.hid hf1
          have K1 := Lib.hid (K0.out.trans hfr)
          have HV1 := Lib.hid hv1
          have hsz := hfr.size
          clear he1 hf1 hfr hmg hmS hv1
          refine hK.out _ _ (X1.out.at_ 0) (fun _ => ?_)
          clear hK K
          simp only [List.setIfInBounds_toArray, List.set_cons_zero, List.set_cons_succ]
          refine wpAnyH_ready (rs := [13]) (by kernel_rfl) (by simp) ?_
          refine AllReadyH.cons rfl (fun K hK => ?_) AllReadyH.nil
          go_simp
          have hb := below_one (w1) (.cells (rcells' .none) 140)
          have N2 := Lib.hid (Blk.made (w1) 140 (rcells' .none))
          have X2 := Lib.hid (X1.out.below hb)
          have E2 := Lib.hid (E1.out.below hb)
          have F2 := Lib.hid (F1.out.below hb)
          have K2 := Lib.hid (K1.out.trans (Fr.old hb))
          clear hb
          refine hK.out _ _ (X2.out.at_ 0) (fun _ => ?_)
          clear hK K
          simp only [List.setIfInBounds_toArray, List.set_cons_zero, List.set_cons_succ]
          generalize hW2 : w1.alloc (.cells (rcells' .none) 140) = W2 at *
          have hge : B ≤ w1.heap.size ∧ wr.heap.size ≤ w1.heap.size := by have := K1.out.size; obtain ⟨W9, q0, _, q2⟩ := HE.out.cf; have := q2.size; omega
          refine wpAnyH_ready (rs := [14]) (by kernel_rfl) (by simp) ?_
          refine AllReadyH.cons rfl (fun K hK => ?_) AllReadyH.nil
          rw [if_pos (show Region.wanted _ _ = true by rfl)]
          refine wp_store_row 140 (.tmp 7) (.tmp 53) rfl (w1.heap.size) (rcells' R) rfl rfl 140 (rcells' .none) N2.out (by kernel_rfl) rfl (res_one _) ?_
          have hfr := fr_row8 (W2) (w1.heap.size) (rcells' R)
          have hxn : m ≠ w1.heap.size := X2.out.apart N2.out (by decide)
          have hgn : g ≠ w1.heap.size := F2.out.blk.apart N2.out (by decide)
          have X3 := Lib.hid (X2.out.of_same (hfr.block m X2.out.lt (by simpa using hxn)))
          have F3 := Lib.hid (F2.out.fr hfr (by simpa using hgn))
          have E3 := Lib.hid (E2.out.other N2.out (by have := hge; omega) (by decide) (by decide) (by decide) (by decide) (by decide) hfr)
          have N3 := Lib.hid (show Blk ((W2).setRow (w1.heap.size) (rcells' R)) (w1.heap.size) 140 (rcells' R) from setRow_heap _ _ _ _ _ _ N2.out)
          have K3 := Lib.hid (Fr.drop (T := [w1.heap.size]) K2.out hfr (fun x hx => by simp at hx; exact .inr (by have := hge; omega)))
          clear hfr hxn hgn
          refine hK.out _ _ (X3.out.at_ 0) (fun _ => ?_)
          clear hK K
          simp only [List.setIfInBounds_toArray, List.set_cons_zero, List.set_cons_succ]
          refine wpAnyH_done (by kernel_rfl) ?_ _
          go_wp2_with fail
          go_meet
          case rel => exact ⟨_, v1, rfl, E3.out, F3.out, X3.out, N3.out, K3.out, fun k hk => (HV1.out k hk).imp id (fun h => Nat.le_trans HB1.out.size h)⟩
        · go_simp
          have hb : Below wc.drew.heap.size wc.drew (wc.alloc (.cells (rcells' .none) 140)).drew := ⟨rfl, rfl, rfl, (below_one wc (.cells (rcells' .none) 140)).size, (below_one wc (.cells (rcells' .none) 140)).block⟩
          have N1 := Lib.hid (show Blk (wc.alloc (.cells (rcells' .none) 140)).drew wc.heap.size 140 (rcells' .none) from Blk.made wc _ _)
          have X1 := Lib.hid (X0.out.below hb)
          have E1 := Lib.hid (E0.out.below hb)
          have F1 := Lib.hid (F0.out.below hb)
          have K1 := Lib.hid (K0.out.trans (Fr.old hb))
          clear hb
          refine hK.out _ _ (X1.out.at_ 0) (fun _ => ?_)
          clear hK K
          simp only [List.setIfInBounds_toArray, List.set_cons_zero, List.set_cons_succ]
          generalize (wc.alloc (.cells (rcells' .none) 140)).drew = W1 at *
          have hge : B ≤ wc.heap.size ∧ wr.heap.size ≤ wc.heap.size := by have := HB1.out.size; obtain ⟨W9, q0, _, q2⟩ := HE.out.cf; have := q2.size; omega
          have hs1 := K1.out.size
          refine wpAnyH_ready (rs := [12]) (by kernel_rfl) (by simp) ?_
          refine AllReadyH.cons rfl (fun K hK => ?_) AllReadyH.nil
          go_simp
          go_at_call 56
          (with_reducible refine (HLF.out _ E1.out F1.out).mono ?_)
          rintro e w2 ⟨v1, rfl, he1, hf1, hfr, hv1⟩
          have hmg : m ≠ g := X1.out.apart F1.out.blk (by decide)
          have hmS : m ∉ a.S p := not_in_S E1.out X1.out (by decide) (by decide) (by decide) (by decide)
          have X2 := Lib.hid (X1.out.of_same (hfr.block m X1.out.lt (by simp only [List.mem_cons, not_or]; exact ⟨hmg, hmS⟩)))
          have E2 := Lib.hid he1
          have F2 := Lib.hid hf1
          have K2 := Lib.hid (K1.out.trans hfr)
          have hng : wc.heap.size ≠ g := N1.out.apart F1.out.blk (by decide)
          have hnS : wc.heap.size ∉ a.S p := not_in_S E1.out N1.out (by decide) (by decide) (by decide) (by decide)
          have N2 := Lib.hid (N1.out.of_same (hfr.block _ N1.out.lt (by simp only [List.mem_cons, not_or]; exact ⟨hng, hnS⟩)))
          clear hng hnS
          have HV1 := Lib.hid hv1
          have hsz := hfr.size
          clear he1 hf1 hfr hmg hmS hv1
          refine hK.out _ _ (X2.out.at_ 0) (fun _ => ?_)
          clear hK K
          simp only [List.setIfInBounds_toArray, List.set_cons_zero, List.set_cons_succ]
          refine wpAnyH_ready (rs := [14]) (by kernel_rfl) (by simp) ?_
          refine AllReadyH.cons rfl (fun K hK => ?_) AllReadyH.nil
          rw [if_pos (show Region.wanted _ _ = true by rfl)]
          refine wp_store_row 140 (.tmp 7) (.tmp 53) rfl (wc.heap.size) (rcells' R) rfl rfl 140 (rcells' .none) N2.out (by kernel_rfl) rfl (res_one _) ?_
          have hfr := fr_row8 (w2) (wc.heap.size) (rcells' R)
          have hxn : m ≠ wc.heap.size := X2.out.apart N2.out (by decide)
          have hgn : g ≠ wc.heap.size := F2.out.blk.apart N2.out (by decide)
          have X3 := Lib.hid (X2.out.of_same (hfr.block m X2.out.lt (by simpa using hxn)))
          have F3 := Lib.hid (F2.out.fr hfr (by simpa using hgn))
          have E3 := Lib.hid (E2.out.other N2.out (by have := hge; omega) (by decide) (by decide) (by decide) (by decide) (by decide) hfr)
          have N3 := Lib.hid (show Blk ((w2).setRow (wc.heap.size) (rcells' R)) (wc.heap.size) 140 (rcells' R) from setRow_heap _ _ _ _ _ _ N2.out)
          have K3 := Lib.hid (Fr.drop (T := [wc.heap.size]) K2.out hfr (fun x hx => by simp at hx; exact .inr (by have := hge; omega)))
          clear hfr hxn hgn
          refine hK.out _ _ (X3.out.at_ 0) (fun _ => ?_)
          clear hK K
          simp only [List.setIfInBounds_toArray, List.set_cons_zero, List.set_cons_succ]
          refine wpAnyH_done (by kernel_rfl) ?_ _
          go_wp2_with fail
          go_meet
          case rel => exact ⟨_, v1, rfl, E3.out, F3.out, X3.out, N3.out, K3.out, fun k hk => (HV1.out k hk).imp id (fun h => Nat.le_trans hs1 h)⟩
      case rest =>
        obtain ⟨rb, v1, rfl, he2, hf2, hx2, hn2, hk2, hv2⟩ := hcut
        obtain ⟨dn, cd, vl⟩ := R
        have E2 := Lib.hid he2
        have F2 := Lib.hid hf2
        have X2 := Lib.hid hx2
        have N2 := Lib.hid hn2
        have K2 := Lib.hid hk2
        have V2 := Lib.hid hv2
        have n0 : wc.cell? ⟨rb, 0, none⟩ = some (.bool dn) := hn2.at_ 0
        clear he2 hf2 hx2 hn2 hk2 hv2
        go_wp2_with fail
        go_loopw [54] (fun _ wr2 => wr2 = wc) (fun _ _ => 0)
        case atStart => rfl
        case round =>
          obtain rfl := hrel
          cases dn with
          | false =>
            go_wp2
            go_ret
            exact ⟨v1, rfl, E2.out, F2.out, X2.out, K2.out.mono (fun k hk => List.mem_cons_of_mem _ hk), V2.out⟩
          | true =>
            have x0 := X2.out.at_ 0
            have x1 := X2.out.at_ 1
            have x2 := X2.out.at_ 2
            have x3 := X2.out.at_ 3
            have y0 := X2.out.free 0
            have y1 := X2.out.free 1
            have y2 := X2.out.free 2
            have y3 := X2.out.free 3
            have n1 := N2.out.at_ 1
            have n2 := N2.out.at_ 2
            have hmr : m ≠ rb := X2.out.apart N2.out (by decide)
            have hmr1 := hmr.symm
            go_wp2_with fail
            go_region
            have hs0 := (Fr.refl [m] wr).setCell (p := ⟨m, 0, none⟩) (.inl (List.mem_singleton.2 rfl)) (.slice (some ⟨g, 0, none⟩) 0 cap)
            have hs : Fr [m] wr (wr.setCell ⟨m, 0, none⟩ (.slice (some ⟨g, 0, none⟩) 0 cap)).drew := hs0.drew
            have hX := X2.out.put 0 (.slice (some ⟨g, 0, none⟩) 0 cap)
            simp only [List.setIfInBounds_toArray, List.set_cons_zero, List.set_cons_succ] at hX
            have hgm : g ≠ m := (X2.out.apart F2.out.blk (by decide)).symm
            have X3 := Lib.hid (show Blk (wr.setCell ⟨m, 0, none⟩ (.slice (some ⟨g, 0, none⟩) 0 cap)).drew m 100 (mcells g 0 cap false 0 0) from hX)
            have N3 := Lib.hid (N2.out.of_same (hs.block rb N2.out.lt (by simpa using hmr1)))
            have F3 := Lib.hid (F2.out.fr hs (by simpa using hgm))
            have E3 := Lib.hid (E2.out.other X2.out HM.out.bm (by decide) (by decide) (by decide) (by decide) (by decide) hs)
            have K3 := Lib.hid ((K2.out.mono (T := m :: g :: a.S p) (fun k hk => List.mem_cons_of_mem _ hk)).trans (hs.mono (fun k hk => by simp at hk; simp [hk])))
            clear hs0 hs hX x0 x1 x2 x3 y0 y1 y2 y3 n0 n1 n2
            generalize (wr.setCell ⟨m, 0, none⟩ (.slice (some ⟨g, 0, none⟩) 0 cap)).drew = W3 at *
            have x0 := X3.out.at_ 0
            have x1 := X3.out.at_ 1
            have x2 := X3.out.at_ 2
            have x3 := X3.out.at_ 3
            have y1 := X3.out.free 1
            have y2 := X3.out.free 2
            have y3 := X3.out.free 3
            have n1 := N3.out.at_ 1
            have n2 := N3.out.at_ 2
            go_wp2_with fail
            go_region
            have hs0 := (((Fr.refl [m] W3).setCell (p := ⟨m, 1, none⟩) (.inl (List.mem_singleton.2 rfl)) (.bool true)).setCell (p := ⟨m, 2, none⟩) (.inl (List.mem_singleton.2 rfl)) (.int .i64 cd)).setCell (p := ⟨m, 3, none⟩) (.inl (List.mem_singleton.2 rfl)) (.int .i64 vl)
            have hs := hs0.drew
            have hX := ((X3.out.put 1 (.bool true)).put 2 (.int .i64 cd)).put 3 (.int .i64 vl)
            simp only [List.setIfInBounds_toArray, List.set_cons_zero, List.set_cons_succ] at hX
            have X4 := Lib.hid (show Blk (((W3.setCell ⟨m, 1, none⟩ (.bool true)).setCell ⟨m, 2, none⟩ (.int .i64 cd)).setCell ⟨m, 3, none⟩ (.int .i64 vl)).drew m 100 (mcells g 0 cap true cd vl) from hX)
            have F4 := Lib.hid (F3.out.fr hs (by simpa using hgm))
            have E4 := Lib.hid (E3.out.other X3.out HM.out.bm (by decide) (by decide) (by decide) (by decide) (by decide) hs)
            have K4 := Lib.hid (K3.out.trans (hs.mono (fun k hk => by simp at hk; simp [hk])))
            clear hs0 hs hX x0 x1 x2 x3 y1 y2 y3 n1 n2
            go_wp2
            go_ret
            exact ⟨v1, rfl, E4.out, F4.out, X4.out, K4.out, V2.out⟩
theorem leafK10 {k : Int} (h : k = 10 ∨ k = 11) : leafK k := by
  rcases h with rfl | rfl
  · exact ⟨by decide, by decide, by decide, by decide, by decide, by decide, by decide, by decide, by decide, by decide⟩
  · exact ⟨by decide, by decide, by decide, by decide, by decide, by decide, by decide, by decide, by decide, by decide⟩
/-- Step of Insert. -/
theorem step_ins {B p m g cap : Nat} {w : World} {post : List Value} {a : EnvA} {s : St} {es : List Ev} {rs : List Rec} {f : Fra} (hin : CfgIn a.c) (he : EnvF B w p a s es rs) (hm : Mach1 B w m g cap post f) (hk : f.kd = 10) :
    Calls Tryz.prog 34 #[.pointer (some ⟨m, 0, none⟩), .pointer (some ⟨p, 0, none⟩)] w (Stepped B p m g cap post a (insertS a.c s f).1 (insertS a.c s f).2.1 (insertS a.c s f).2.2 es rs w) :=
  step_leaf he hm (leafK10 (.inl hk)) fun W hE hF => leaf_10 hE hF hm.bg hk fun W2 hE2 hF2 => insert_any hin hE2 hF2 hm.bg
/-- Step of Remove. -/
theorem step_rem {B p m g cap : Nat} {w : World} {post : List Value} {a : EnvA} {s : St} {es : List Ev} {rs : List Rec} {f : Fra} (hin : CfgIn a.c) (he : EnvF B w p a s es rs) (hm : Mach1 B w m g cap post f) (hk : f.kd = 11) (hu : 0 ≤ f.fu ∧ f.fu < 18446744073709551616) (hes : es.length ≤ 900000) :
    Calls Tryz.prog 34 #[.pointer (some ⟨m, 0, none⟩), .pointer (some ⟨p, 0, none⟩)] w (Stepped B p m g cap post a (removeS a.c s es f).1 (removeS a.c s es f).2.2.1 (removeS a.c s es f).2.2.2 (removeS a.c s es f).2.1 rs w) :=
  step_leaf he hm (leafK10 (.inr hk)) fun W hE hF => leaf_11 hE hF hm.bg hk fun W2 hE2 hF2 => remove_any hin hE2 hF2 hm.bg hu hes
end Go.Proofs.YtanbjdlaolgepaaGreat
