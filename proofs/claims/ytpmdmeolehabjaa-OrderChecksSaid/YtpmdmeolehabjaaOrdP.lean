/-
  The walk of the law OrderChecks: it returns true.
-/
import Derived.Test.YtpmdmeolehabjaaOrdO
import Derived.Test.YtpmdmeolehabjaaShO
namespace Go.Proofs.Ytpmdmeolehabjaa
open Go Go.RowKit
set_option linter.unusedSimpArgs false
set_option linter.unusedVariables false

set_option maxHeartbeats 16000000 in
theorem checks17_law {w : World} {c : Cfg} {pa : Option Addr} {pn : Nat} (pc : Nat) {sa : Option Addr} {sn : Nat} (sc : Nat) {la : Option Addr} {L : Nat} {es : List Ev} (lc : Nat) (hL : es.length = L) {ba : Option Addr} {bn : Nat} {bz : List Int} (bc : Nat) {ra : Option Addr} {rn : Nat} {rz : List Int} (rc : Nat)
    (hl : Lists w 0 c pa pn sa sn) (he : InE w la es) (hb : InB w w.heap.size ba bn bz) (hr : InInts w ra rn rz) :
    Calls Try.prog 3 #[cv c pa pn pc sa sn sc, .slice la L lc, .slice ba bn bc, .slice ra rn rc] w (Gives (.bool true) w) := by
  have hX := Blk.made w 25 (cc c pa pn pc sa sn sc)
  have hb0 := below_one w (.cells (cc c pa pn pc sa sn sc) 25)
  have HB := Lib.hid hb0
  have HX := Lib.hid hX
  have HL := Lib.hid (hl.below hb0)
  have HE := Lib.hid (he.below hb0)
  have HI := Lib.hid ((hb.below (Nat.le_refl _) hb0).mono hb0.size)
  have HR := Lib.hid (hr.below hb0)
  have hli := lightO_any HL.out pc sc la es lc
  rw [hL] at hli
  have HLI := Lib.hid hli
  have HLL := Lib.hid hL
  have hmb := hb.2.1
  have hmr := hr.2.1
  unfold maxLen at hmb hmr
  obtain ⟨e0, e1, e2, e3, e4, e5, e6, e7, e8, e9, e10⟩ := eleven hX
  clear hX hb0 hl he hb hr hli hL
  go_enter Try.func3, Try.ntmps3
  go_wp2_with (with_reducible refine HLI.out.mono ?_)
  rintro e w1 ⟨⟨b, rfl, h400⟩, hb1⟩
  clear e0 e1 e2 e3 e4 e5 e6 e7 e8 e9 e10
  generalize w.alloc (.cells (cc c pa pn pc sa sn sc) 25) = W0 at *
  have HB1 := Lib.hid hb1
  cases b
  · clear h400 hb1
    go_wp2
    go_ret
    exact ⟨rfl, HB.out.trans (HB1.out.mono HB.out.size)⟩
  have hle := h400 rfl
  rw [HLL.out] at hle
  clear h400
  have hb2 := below_one w1 (.cells #[.slice ra rn rc] 28)
  have HB2 := Lib.hid (hb1.trans (hb2.mono hb1.size))
  have hsh := short_one (w := w1.alloc (.cells #[.slice ra rn rc] 28)) (g := w1.heap.size) ((Blk.made w1 28 #[.slice ra rn rc]).at_ 0) ba bn bc
  obtain ⟨sb, hsb⟩ : ∃ sb, (decide ((bn : Int) ≤ 400) && decide ((rn : Int) ≤ 400)) = sb := ⟨_, rfl⟩
  rw [hsb] at hsh
  have HSH := Lib.hid hsh
  have HSB := Lib.hid hsb
  clear hb1 hb2 hsh hsb
  go_wp2_with (with_reducible refine HSH.out.mono ?_)
  rintro e w2 ⟨rfl, rfl⟩
  generalize w1.alloc (.cells #[.slice ra rn rc] 28) = W2 at *
  clear HSH
  cases sb
  · go_wp2
    go_ret
    exact ⟨rfl, HB.out.trans (HB2.out.mono HB.out.size)⟩
  have hsb := HSB.out
  simp only [Bool.and_eq_true, decide_eq_true_eq] at hsb
  have hrn : rn ≤ 400 := by omega
  have H3 := Lib.hid (config_any ((HI.out.below (Nat.le_refl _) HB2.out).mono HB2.out.size) bc)
  clear hsb HSB
  go_wp2_with (with_reducible refine H3.out.mono ?_)
  rintro e w3 ⟨u, rfl, hcfg, hb3⟩
  generalize decC (strm bz) = d at *
  obtain ⟨qa, qn, qc, ta, tn, tc, rfl, hd⟩ := hcfg.isCfg
  have hb4 := below_one w3 (.cells (cc d qa qn qc ta tn tc) 25)
  have hb24 := hb3.trans (hb4.mono hb3.size)
  have HB4 := Lib.hid (HB2.out.trans (hb24.mono HB2.out.size))
  have HD := Lib.hid ((hd.mono (Nat.zero_le _)).below hb4)
  have HXW := Lib.hid (HX.out.below (HB4.out))
  have HDW := Lib.hid (Blk.made w3 25 (cc d qa qn qc ta tn tc))
  clear hcfg hb3 hb4 hb24 hd H3
  go_upto_region 4 with fail
  change Code.wp _ _ _ _ (w3.alloc (.cells (cc d qa qn qc ta tn tc) 25))
  generalize w3.alloc (.cells (cc d qa qn qc ta tn tc) 25) = W at *
  generalize w3.heap.size = g at *
  have hS0 : Below W.heap.size W W.drew := below_drew (Below.refl _ _)
  have hlo := HB4.out.size
  have HA := Lib.hid (fun u (hu : Below W.heap.size W u) => agreeO_any pc sc lc (HL.out.below (HB4.out.trans (hu.mono hlo))) (HE.out.below (HB4.out.trans (hu.mono hlo))) (by rw [HLL.out]; omega))
  have HAD := Lib.hid (fun u (hu : Below W.heap.size W u) => agreeO_any qc tc lc (HD.out.below hu) (HE.out.below (HB4.out.trans (hu.mono hlo))) (by rw [HLL.out]; omega))
  rw [HLL.out] at HA HAD
  have HRW := Lib.hid (fun u (hu : Below W.heap.size W u) => HR.out.below (HB4.out.trans (hu.mono hlo)))
  clear hle
  refine wp_region_held_drew (S := (fun u => Below W.heap.size W u)) (by kernel_rfl) hS0 (fun _ => ?_)
  change wpAnyH _ _ _ _ _ 26 #[false, false, false, false, false, false, false, false, false, false, false, false, false, false, false, false, false, false, false, false, false, false, false, false, false, false] _ (World.drew _)
  refine wpAnyH_ready (rs := [0]) (by kernel_rfl) (by simp) ?_
  refine AllReadyH.cons rfl (fun K hK => ?_) AllReadyH.nil
  go_simp
  go_at_call 7
  (with_reducible refine (awakeO_any _).mono ?_)
  rintro e w5 ⟨rfl, hb5⟩
  have hS5 : Below W.heap.size W w5 := hS0.trans (hb5.mono hS0.size)
  refine hK.out _ _ hS5 (fun _ => ?_)
  clear hK K
  simp only [List.setIfInBounds_toArray, List.set_cons_zero, List.set_cons_succ]
  refine wpAnyH_take (i := 1) (v := .bool true) rfl (by kernel_rfl) (by kernel_rfl) (by kernel_rfl) (fun _ _ _ h => h) (Or.inl ⟨by rfl, fun u hu => by (go_simp)⟩) hS5 ?_
  simp only [List.getElem_toArray, List.getElem_cons_succ, List.getElem_cons_zero, Act.put, List.setIfInBounds_toArray, List.set_cons_zero, List.set_cons_succ]
  refine wpAnyH_take (i := 2) (v := .agg #[.int .i64 c.wo, .int .i64 c.le, .int .i64 c.cl, .int .i64 c.ta, .int .i64 c.de, .int .i64 c.he, .int .i64 c.ba, .int .i64 c.ag, .int .i64 c.pa, .slice pa pn pc, .slice sa sn sc]) rfl (by kernel_rfl) (by kernel_rfl) (by kernel_rfl) (fun _ _ _ h => h) (Or.inl ⟨by rfl, fun u hu => by (obtain ⟨z0, z1, z2, z3, z4, z5, z6, z7, z8, z9, z10⟩ := eleven (HXW.out.below hu); go_simp)⟩) hS5 ?_
  simp only [List.getElem_toArray, List.getElem_cons_succ, List.getElem_cons_zero, Act.put, List.setIfInBounds_toArray, List.set_cons_zero, List.set_cons_succ]
  refine wpAnyH_take (i := 3) (v := .slice la L lc) rfl (by kernel_rfl) (by kernel_rfl) (by kernel_rfl) (fun _ _ _ h => h) (Or.inl ⟨by rfl, fun u hu => by (go_simp)⟩) hS5 ?_
  simp only [List.getElem_toArray, List.getElem_cons_succ, List.getElem_cons_zero, Act.put, List.setIfInBounds_toArray, List.set_cons_zero, List.set_cons_succ]
  refine wpAnyH_ready (rs := [4]) (by kernel_rfl) (by simp) ?_
  refine AllReadyH.cons rfl (fun K hK => ?_) AllReadyH.nil
  go_simp
  go_at_call 8
  (with_reducible refine (HA.out _ hS5).mono ?_)
  rintro e w6 ⟨rfl, hb6⟩
  have hS6 : Below W.heap.size W w6 := hS5.trans (hb6.mono hS5.size)
  refine hK.out _ _ hS6 (fun _ => ?_)
  clear hK K
  simp only [List.setIfInBounds_toArray, List.set_cons_zero, List.set_cons_succ]
  refine wpAnyH_take (i := 5) (v := .bool true) rfl (by kernel_rfl) (by kernel_rfl) (by kernel_rfl) (fun _ _ _ h => h) (Or.inl ⟨by rfl, fun u hu => by (go_simp)⟩) hS6 ?_
  simp only [List.getElem_toArray, List.getElem_cons_succ, List.getElem_cons_zero, Act.put, List.setIfInBounds_toArray, List.set_cons_zero, List.set_cons_succ]
  refine wpAnyH_take (i := 6) (v := .bool true) rfl (by kernel_rfl) (by kernel_rfl) (by kernel_rfl) (fun _ _ _ h => h) (Or.inl ⟨by rfl, fun u hu => by (go_simp)⟩) hS6 ?_
  simp only [List.getElem_toArray, List.getElem_cons_succ, List.getElem_cons_zero, Act.put, List.setIfInBounds_toArray, List.set_cons_zero, List.set_cons_succ]
  refine wpAnyH_take (i := 7) (v := .agg #[.int .i64 d.wo, .int .i64 d.le, .int .i64 d.cl, .int .i64 d.ta, .int .i64 d.de, .int .i64 d.he, .int .i64 d.ba, .int .i64 d.ag, .int .i64 d.pa, .slice qa qn qc, .slice ta tn tc]) rfl (by kernel_rfl) (by kernel_rfl) (by kernel_rfl) (fun _ _ _ h => h) (Or.inl ⟨by rfl, fun u hu => by (obtain ⟨z0, z1, z2, z3, z4, z5, z6, z7, z8, z9, z10⟩ := eleven (HDW.out.below hu); go_simp)⟩) hS6 ?_
  simp only [List.getElem_toArray, List.getElem_cons_succ, List.getElem_cons_zero, Act.put, List.setIfInBounds_toArray, List.set_cons_zero, List.set_cons_succ]
  refine wpAnyH_take (i := 8) (v := .slice la L lc) rfl (by kernel_rfl) (by kernel_rfl) (by kernel_rfl) (fun _ _ _ h => h) (Or.inl ⟨by rfl, fun u hu => by (go_simp)⟩) hS6 ?_
  simp only [List.getElem_toArray, List.getElem_cons_succ, List.getElem_cons_zero, Act.put, List.setIfInBounds_toArray, List.set_cons_zero, List.set_cons_succ]
  refine wpAnyH_ready (rs := [9]) (by kernel_rfl) (by simp) ?_
  refine AllReadyH.cons rfl (fun K hK => ?_) AllReadyH.nil
  go_simp
  go_at_call 8
  (with_reducible refine (HAD.out _ hS6).mono ?_)
  rintro e w7 ⟨rfl, hb7⟩
  have hS7 : Below W.heap.size W w7 := hS6.trans (hb7.mono hS6.size)
  refine hK.out _ _ hS7 (fun _ => ?_)
  clear hK K
  simp only [List.setIfInBounds_toArray, List.set_cons_zero, List.set_cons_succ]
  refine wpAnyH_take (i := 10) (v := .bool true) rfl (by kernel_rfl) (by kernel_rfl) (by kernel_rfl) (fun _ _ _ h => h) (Or.inl ⟨by rfl, fun u hu => by (go_simp)⟩) hS7 ?_
  simp only [List.getElem_toArray, List.getElem_cons_succ, List.getElem_cons_zero, Act.put, List.setIfInBounds_toArray, List.set_cons_zero, List.set_cons_succ]
  refine wpAnyH_take (i := 11) (v := .bool true) rfl (by kernel_rfl) (by kernel_rfl) (by kernel_rfl) (fun _ _ _ h => h) (Or.inl ⟨by rfl, fun u hu => by (go_simp)⟩) hS7 ?_
  simp only [List.getElem_toArray, List.getElem_cons_succ, List.getElem_cons_zero, Act.put, List.setIfInBounds_toArray, List.set_cons_zero, List.set_cons_succ]
  refine wpAnyH_take (i := 12) (v := .agg #[.int .i64 d.wo, .int .i64 d.le, .int .i64 d.cl, .int .i64 d.ta, .int .i64 d.de, .int .i64 d.he, .int .i64 d.ba, .int .i64 d.ag, .int .i64 d.pa, .slice qa qn qc, .slice ta tn tc]) rfl (by kernel_rfl) (by kernel_rfl) (by kernel_rfl) (fun _ _ _ h => h) (Or.inl ⟨by rfl, fun u hu => by (obtain ⟨z0, z1, z2, z3, z4, z5, z6, z7, z8, z9, z10⟩ := eleven (HDW.out.below hu); go_simp)⟩) hS7 ?_
  simp only [List.getElem_toArray, List.getElem_cons_succ, List.getElem_cons_zero, Act.put, List.setIfInBounds_toArray, List.set_cons_zero, List.set_cons_succ]
  refine wpAnyH_take (i := 13) (v := .agg #[.int .i64 d.wo, .int .i64 d.le, .int .i64 d.cl, .int .i64 d.ta, .int .i64 d.de, .int .i64 d.he, .int .i64 d.ba, .int .i64 d.ag, .int .i64 d.pa, .slice qa qn qc, .slice ta tn tc]) rfl (by kernel_rfl) (by kernel_rfl) (by kernel_rfl) (fun _ _ _ h => h) (Or.inl ⟨by rfl, fun u hu => by (obtain ⟨z0, z1, z2, z3, z4, z5, z6, z7, z8, z9, z10⟩ := eleven (HDW.out.below hu); go_simp)⟩) hS7 ?_
  simp only [List.getElem_toArray, List.getElem_cons_succ, List.getElem_cons_zero, Act.put, List.setIfInBounds_toArray, List.set_cons_zero, List.set_cons_succ]
  refine wpAnyH_take (i := 14) (v := .slice ra rn rc) rfl (by kernel_rfl) (by kernel_rfl) (by kernel_rfl) (fun _ _ _ h => h) (Or.inl ⟨by rfl, fun u hu => by (go_simp)⟩) hS7 ?_
  simp only [List.getElem_toArray, List.getElem_cons_succ, List.getElem_cons_zero, Act.put, List.setIfInBounds_toArray, List.set_cons_zero, List.set_cons_succ]
  refine wpAnyH_ready (rs := [15]) (by kernel_rfl) (by simp) ?_
  refine AllReadyH.cons rfl (fun K hK => ?_) AllReadyH.nil
  go_simp
  go_at_call 9
  (with_reducible refine (narrow_any qc tc rc (HRW.out _ hS7) hrn).mono ?_)
  rintro e w8 ⟨v8, es8, rfl, hown8, hlen8, hb8⟩
  have hS8 : Below W.heap.size W w8 := hS7.trans (hb8.mono hS7.size)
  obtain ⟨a8, c8, rfl, hin8⟩ := hown8.inE
  refine hK.out _ _ hS8 (fun _ => ?_)
  clear hK K
  simp only [List.setIfInBounds_toArray, List.set_cons_zero, List.set_cons_succ]
  have hq8 := agreeO_any qc tc c8 (HD.out.below hS8) hin8 (by rw [hlen8]; omega)
  rw [hlen8] at hq8
  refine wpAnyH_ready (rs := [16]) (by kernel_rfl) (by simp) ?_
  refine AllReadyH.cons rfl (fun K hK => ?_) AllReadyH.nil
  go_simp
  go_at_call 8
  (with_reducible refine (hq8).mono ?_)
  rintro e w9 ⟨rfl, hb9⟩
  have hS9 : Below W.heap.size W w9 := hS8.trans (hb9.mono hS8.size)
  refine hK.out _ _ hS9 (fun _ => ?_)
  clear hK K
  simp only [List.setIfInBounds_toArray, List.set_cons_zero, List.set_cons_succ]
  refine wpAnyH_take (i := 17) (v := .bool true) rfl (by kernel_rfl) (by kernel_rfl) (by kernel_rfl) (fun _ _ _ h => h) (Or.inl ⟨by rfl, fun u hu => by (go_simp)⟩) hS9 ?_
  simp only [List.getElem_toArray, List.getElem_cons_succ, List.getElem_cons_zero, Act.put, List.setIfInBounds_toArray, List.set_cons_zero, List.set_cons_succ]
  refine wpAnyH_take (i := 18) (v := .bool true) rfl (by kernel_rfl) (by kernel_rfl) (by kernel_rfl) (fun _ _ _ h => h) (Or.inl ⟨by rfl, fun u hu => by (go_simp)⟩) hS9 ?_
  simp only [List.getElem_toArray, List.getElem_cons_succ, List.getElem_cons_zero, Act.put, List.setIfInBounds_toArray, List.set_cons_zero, List.set_cons_succ]
  refine wpAnyH_take (i := 21) (v := .slice ra rn rc) rfl (by kernel_rfl) (by kernel_rfl) (by kernel_rfl) (fun _ _ _ h => h) (Or.inl ⟨by rfl, fun u hu => by (go_simp)⟩) hS9 ?_
  simp only [List.getElem_toArray, List.getElem_cons_succ, List.getElem_cons_zero, Act.put, List.setIfInBounds_toArray, List.set_cons_zero, List.set_cons_succ]
  refine wpAnyH_ready (rs := [19]) (by kernel_rfl) (by simp) ?_
  refine AllReadyH.cons rfl (fun K hK => ?_) AllReadyH.nil
  go_simp
  go_at_call 10
  (with_reducible refine (two_any _).mono ?_)
  rintro e w10 ⟨x10, y10, z10, s10, t10, u10, rfl, hl10, hb10⟩
  have hS10 : Below W.heap.size W w10 := hS9.trans (hb10.mono hS9.size)
  refine hK.out _ _ hS10 (fun _ => ?_)
  clear hK K
  simp only [List.setIfInBounds_toArray, List.set_cons_zero, List.set_cons_succ]
  refine wpAnyH_ready (rs := [20]) (by kernel_rfl) (by simp) ?_
  refine AllReadyH.cons rfl (fun K hK => ?_) AllReadyH.nil
  go_simp
  go_at_call 10
  (with_reducible refine (two_any _).mono ?_)
  rintro e w11 ⟨x11, y11, z11, s11, t11, u11, rfl, hl11, hb11⟩
  have hS11 : Below W.heap.size W w11 := hS10.trans (hb11.mono hS10.size)
  refine hK.out _ _ hS11 (fun _ => ?_)
  clear hK K
  simp only [List.setIfInBounds_toArray, List.set_cons_zero, List.set_cons_succ]
  refine wpAnyH_ready (rs := [22]) (by kernel_rfl) (by simp) ?_
  refine AllReadyH.cons rfl (fun K hK => ?_) AllReadyH.nil
  go_simp
  go_at_call 9
  (with_reducible refine (narrow_any z11 u11 rc (HRW.out _ hS11) hrn).mono ?_)
  rintro e w12 ⟨v12, es12, rfl, hown12, hlen12, hb12⟩
  have hS12 : Below W.heap.size W w12 := hS11.trans (hb12.mono hS11.size)
  obtain ⟨a12, c12, rfl, hin12⟩ := hown12.inE
  refine hK.out _ _ hS12 (fun _ => ?_)
  clear hK K
  simp only [List.setIfInBounds_toArray, List.set_cons_zero, List.set_cons_succ]
  have hq12 := agreeO_any z10 u10 c12 ((hl10.below hb11).below hb12) hin12 (by rw [hlen12]; omega)
  rw [hlen12] at hq12
  refine wpAnyH_ready (rs := [23]) (by kernel_rfl) (by simp) ?_
  refine AllReadyH.cons rfl (fun K hK => ?_) AllReadyH.nil
  go_simp
  go_at_call 8
  (with_reducible refine (hq12).mono ?_)
  rintro e w13 ⟨rfl, hb13⟩
  have hS13 : Below W.heap.size W w13 := hS12.trans (hb13.mono hS12.size)
  refine hK.out _ _ hS13 (fun _ => ?_)
  clear hK K
  simp only [List.setIfInBounds_toArray, List.set_cons_zero, List.set_cons_succ]
  refine wpAnyH_take (i := 24) (v := .bool true) rfl (by kernel_rfl) (by kernel_rfl) (by kernel_rfl) (fun _ _ _ h => h) (Or.inl ⟨by rfl, fun u hu => by (go_simp)⟩) hS13 ?_
  simp only [List.getElem_toArray, List.getElem_cons_succ, List.getElem_cons_zero, Act.put, List.setIfInBounds_toArray, List.set_cons_zero, List.set_cons_succ]
  refine wpAnyH_ready (rs := [25]) (by kernel_rfl) (by simp) ?_
  refine AllReadyH.cons rfl (fun K hK => ?_) AllReadyH.nil
  go_simp
  refine hK.out _ _ hS13 (fun _ => ?_)
  clear hK K
  simp only [List.setIfInBounds_toArray, List.set_cons_zero, List.set_cons_succ]
  refine wpAnyH_done (by kernel_rfl) ?_ _
  go_wp2
  go_ret
  exact ⟨rfl, HB.out.trans ((HB4.out.trans (hS13.mono hlo)).mono HB.out.size)⟩
end Go.Proofs.Ytpmdmeolehabjaa
