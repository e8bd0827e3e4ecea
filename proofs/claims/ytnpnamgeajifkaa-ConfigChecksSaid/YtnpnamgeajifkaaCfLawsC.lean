/-
  The walk of the statement ConfigChecks. (Written by wip/gen_cflawc.py.)
-/
import Derived.Test.YtnpnamgeajifkaaCfChg
import Derived.Test.YtnpnamgeajifkaaCfAwake
import Derived.Test.YtnpnamgeajifkaaCfChkC
import Derived.Test.YtnpnamgeajifkaaCfLawsA
import Derived.Deep.RegionHeld
namespace Go.Proofs.Ytnpnamgeajifkaa
open Go Go.RowKit
set_option linter.unusedSimpArgs false

/-- Two configurations in blocks. -/
def TwoE (g : Nat) (c : Cfg) (pa : Option Addr) (pn pc : Nat) (sa : Option Addr) (sn sc : Nat) (g' : Nat) (d : Cfg) (ra : Option Addr) (rn rc : Nat) (ta : Option Addr) (tn tc : Nat) (u : World) : Prop := Eleven u g c pa pn pc sa sn sc ∧ Eleven u g' d ra rn rc ta tn tc

set_option maxRecDepth 20000 in
set_option maxHeartbeats 16000000 in
theorem checks_law (c : Cfg) (pa : Option Addr) (pn pc : Nat) (sa : Option Addr) (sn sc : Nat) (a : Option Addr) (L c' : Nat) (zs : List Int) (which byv : Int) (near : Bool) (w : World) (hl : Lists w 0 c pa pn sa sn) (h : InB w w.heap.size a L zs) :
    Calls Try.prog 3 #[cv c pa pn pc sa sn sc, .slice a L c', .int .i64 which, .int .i64 byv, .bool near] w fun e w' => e = .returned (.bool true) ∧ Below w.heap.size w w' := by
  have hmax := h.2.1
  unfold maxLen at hmax
  have B0 := below_one w (.cells (cc c pa pn pc sa sn sc) 25)
  have H1 := Lib.hid (hl.alloc (.cells (cc c pa pn pc sa sn sc) 25))
  have X1 := Lib.hid (Blk.made w 25 (cc c pa pn pc sa sn sc))
  have I1 := Lib.hid (h.up B0)
  have B1 := Lib.hid B0
  obtain ⟨e0, e1, e2, e3, e4, e5, e6, e7, e8, e9, e10⟩ := eleven X1.out
  clear B0 h hl
  obtain ⟨lb, hlb⟩ : ∃ b, lightB c = b := ⟨_, rfl⟩
  obtain ⟨sb, hsb⟩ : ∃ b, decide ((L : Int) ≤ 400) = b := ⟨_, rfl⟩
  have HLB := Lib.hid hlb
  have HSB := Lib.hid hsb
  clear hlb hsb
  go_enter Try.func3, Try.ntmps3
  go_wp2_with fail
  generalize w.alloc (.cells (cc c pa pn pc sa sn sc) 25) = W1 at *
  (with_reducible refine (light_any H1.out _ _).mono ?_)
  rintro e W2 ⟨rfl, hb⟩
  rw [HLB.out]
  have H2 := Lib.hid (H1.out.below hb)
  have X2 := Lib.hid (X1.out.below hb)
  have I2 := Lib.hid (I1.out.up hb)
  have B2 := Lib.hid (B1.out.trans (hb.mono B1.out.size))
  clear hb H1 X1 I1 B1 e0 e1 e2 e3 e4 e5 e6 e7 e8 e9 e10
  cases lb with
  | false =>
    go_wp2
    go_ret
    exact ⟨rfl, B2.out⟩
  | true =>
  go_wp2_with fail
  (with_reducible refine (short_nil _ _ _).mono ?_)
  rintro e w0 ⟨rfl, rfl⟩
  rw [HSB.out]
  cases sb with
  | false =>
    go_wp2
    go_ret
    exact ⟨rfl, B2.out⟩
  | true =>
  cases near
  all_goals
    go_wp2_with fail
    (with_reducible refine (rdecode_any I2.out _).mono ?_)
    rintro e W3 ⟨v, rfl, hcfg, hb⟩
    obtain ⟨qa, qn, qc, ua, un, uc, rfl, hl3⟩ := hcfg.isCfg
    have L3 := Lib.hid hl3
    have H3 := Lib.hid (H2.out.below hb)
    have X3 := Lib.hid (X2.out.below hb)
    have B3 := Lib.hid (B2.out.trans (hb.mono B2.out.size))
    clear hb hcfg hl3
    go_wp2_with fail
    (with_reducible refine (changed_any L3.out _ _ _ _).mono ?_)
    rintro e W4 ⟨v4, d, rfl, ⟨ra, rn, rc, ta, tn, tc, rfl, hl4⟩, hb⟩
    have D5 := Lib.hid (hl4.alloc (.cells (cc d ra rn rc ta tn tc) 25))
    have Y5 := Lib.hid (Blk.made W4 25 (cc d ra rn rc ta tn tc))
    have hb5 := hb.alloc hb.size (.cells (cc d ra rn rc ta tn tc) 25)
    have H5 := Lib.hid (H3.out.below hb5)
    have X5 := Lib.hid (X3.out.below hb5)
    have B5 := Lib.hid (B3.out.trans (hb5.mono B3.out.size))
    clear hb hb5 hl4 L3 H3 X3 B3
    go_wp2_with fail
    generalize W4.alloc (.cells (cc d ra rn rc ta tn tc) 25) = W5 at *
    generalize W4.heap.size = g' at *
    have D6 := Lib.hid D5.out.drew
    have H6 := Lib.hid H5.out.drew
    have X6 := Lib.hid (X5.out.below (below_drew (Below.refl _ _)))
    have Y6 := Lib.hid (Y5.out.below (below_drew (Below.refl _ _)))
    have B6 := Lib.hid (below_drew B5.out)
    clear D5 H5 X5 Y5 B5
    refine wp_region_held_drew (S := (TwoE w.heap.size c pa pn pc sa sn sc g' d ra rn rc ta tn tc)) (by kernel_rfl) ⟨eleven X6.out, eleven Y6.out⟩ (fun _ => ?_)
    change wpAnyH _ _ _ _ _ 16 #[false, false, false, false, false, false, false, false, false, false, false, false, false, false, false, false] _ (World.drew _)
    refine wpAnyH_ready (rs := [0]) (by kernel_rfl) (by simp) ?_
    refine AllReadyH.cons rfl (fun K hK => ?_) AllReadyH.nil
    go_simp
    go_at_call 12
    (with_reducible refine (awake_any _).mono ?_)
    rintro e w7 ⟨rfl, b7⟩
    have H7 := Lib.hid (H6.out.below b7)
    have D7 := Lib.hid (D6.out.below b7)
    have X7 := Lib.hid (X6.out.below b7)
    have Y7 := Lib.hid (Y6.out.below b7)
    have B7 := Lib.hid (B6.out.trans (b7.mono B6.out.size))
    clear b7 H6 D6 X6 Y6 B6
    refine hK.out _ _ ⟨eleven X7.out, eleven Y7.out⟩ (fun _ => ?_)
    clear hK K
    simp only [List.setIfInBounds_toArray, List.set_cons_zero, List.set_cons_succ]
    refine wpAnyH_take (i := 1) (v := .bool true) rfl (by kernel_rfl) (by kernel_rfl) (by kernel_rfl) (fun _ _ _ h => h) (Or.inl ⟨by rfl, fun u hu => by (go_simp)⟩) ⟨eleven X7.out, eleven Y7.out⟩ ?_
    simp only [List.getElem_toArray, List.getElem_cons_succ, List.getElem_cons_zero, Act.put, List.setIfInBounds_toArray, List.set_cons_zero, List.set_cons_succ]
    refine wpAnyH_take (i := 2) (v := cv c pa pn pc sa sn sc) rfl (by kernel_rfl) (by kernel_rfl) (by kernel_rfl) (fun _ _ _ h => h) (Or.inl ⟨by rfl, fun u hu => by (obtain ⟨⟨e0, e1, e2, e3, e4, e5, e6, e7, e8, e9, e10⟩, ⟨f0, f1, f2, f3, f4, f5, f6, f7, f8, f9, f10⟩⟩ := hu; go_simp)⟩) ⟨eleven X7.out, eleven Y7.out⟩ ?_
    simp only [List.getElem_toArray, List.getElem_cons_succ, List.getElem_cons_zero, Act.put, List.setIfInBounds_toArray, List.set_cons_zero, List.set_cons_succ]
    refine wpAnyH_take (i := 4) (v := cv c pa pn pc sa sn sc) rfl (by kernel_rfl) (by kernel_rfl) (by kernel_rfl) (fun _ _ _ h => h) (Or.inl ⟨by rfl, fun u hu => by (obtain ⟨⟨e0, e1, e2, e3, e4, e5, e6, e7, e8, e9, e10⟩, ⟨f0, f1, f2, f3, f4, f5, f6, f7, f8, f9, f10⟩⟩ := hu; go_simp)⟩) ⟨eleven X7.out, eleven Y7.out⟩ ?_
    simp only [List.getElem_toArray, List.getElem_cons_succ, List.getElem_cons_zero, Act.put, List.setIfInBounds_toArray, List.set_cons_zero, List.set_cons_succ]
    refine wpAnyH_ready (rs := [3]) (by kernel_rfl) (by simp) ?_
    refine AllReadyH.cons rfl (fun K hK => ?_) AllReadyH.nil
    go_simp
    go_at_call 13
    (with_reducible refine (check_any H7.out _ _).mono ?_)
    rintro e w8 ⟨rfl, b8⟩
    have H8 := Lib.hid (H7.out.below b8)
    have D8 := Lib.hid (D7.out.below b8)
    have X8 := Lib.hid (X7.out.below b8)
    have Y8 := Lib.hid (Y7.out.below b8)
    have B8 := Lib.hid (B7.out.trans (b8.mono B7.out.size))
    clear b8 H7 D7 X7 Y7 B7
    refine hK.out _ _ ⟨eleven X8.out, eleven Y8.out⟩ (fun _ => ?_)
    clear hK K
    simp only [List.setIfInBounds_toArray, List.set_cons_zero, List.set_cons_succ]
    refine wpAnyH_ready (rs := [5]) (by kernel_rfl) (by simp) ?_
    refine AllReadyH.cons rfl (fun K hK => ?_) AllReadyH.nil
    go_simp
    go_at_call 14
    (with_reducible refine (rcheck_any H8.out _ _).mono ?_)
    rintro e w9 ⟨rfl, b9⟩
    have H9 := Lib.hid (H8.out.below b9)
    have D9 := Lib.hid (D8.out.below b9)
    have X9 := Lib.hid (X8.out.below b9)
    have Y9 := Lib.hid (Y8.out.below b9)
    have B9 := Lib.hid (B8.out.trans (b9.mono B8.out.size))
    clear b9 H8 D8 X8 Y8 B8
    refine hK.out _ _ ⟨eleven X9.out, eleven Y9.out⟩ (fun _ => ?_)
    clear hK K
    simp only [List.setIfInBounds_toArray, List.set_cons_zero, List.set_cons_succ]
    refine wpAnyH_take (i := 6) (v := .bool true) rfl (by kernel_rfl) (by kernel_rfl) (by kernel_rfl) (fun _ _ _ h => h) (Or.inl ⟨by rfl, fun u hu => by (go_simp)⟩) ⟨eleven X9.out, eleven Y9.out⟩ ?_
    simp only [List.getElem_toArray, List.getElem_cons_succ, List.getElem_cons_zero, Act.put, List.setIfInBounds_toArray, List.set_cons_zero, List.set_cons_succ]
    refine wpAnyH_take (i := 7) (v := .bool true) rfl (by kernel_rfl) (by kernel_rfl) (by kernel_rfl) (fun _ _ _ h => h) (Or.inl ⟨by rfl, fun u hu => by (go_simp)⟩) ⟨eleven X9.out, eleven Y9.out⟩ ?_
    simp only [List.getElem_toArray, List.getElem_cons_succ, List.getElem_cons_zero, Act.put, List.setIfInBounds_toArray, List.set_cons_zero, List.set_cons_succ]
    refine wpAnyH_take (i := 8) (v := .bool true) rfl (by kernel_rfl) (by kernel_rfl) (by kernel_rfl) (fun _ _ _ h => h) (Or.inl ⟨by rfl, fun u hu => by (go_simp)⟩) ⟨eleven X9.out, eleven Y9.out⟩ ?_
    simp only [List.getElem_toArray, List.getElem_cons_succ, List.getElem_cons_zero, Act.put, List.setIfInBounds_toArray, List.set_cons_zero, List.set_cons_succ]
    refine wpAnyH_take (i := 9) (v := cv d ra rn rc ta tn tc) rfl (by kernel_rfl) (by kernel_rfl) (by kernel_rfl) (fun _ _ _ h => h) (Or.inl ⟨by rfl, fun u hu => by (obtain ⟨⟨e0, e1, e2, e3, e4, e5, e6, e7, e8, e9, e10⟩, ⟨f0, f1, f2, f3, f4, f5, f6, f7, f8, f9, f10⟩⟩ := hu; go_simp)⟩) ⟨eleven X9.out, eleven Y9.out⟩ ?_
    simp only [List.getElem_toArray, List.getElem_cons_succ, List.getElem_cons_zero, Act.put, List.setIfInBounds_toArray, List.set_cons_zero, List.set_cons_succ]
    refine wpAnyH_take (i := 11) (v := cv d ra rn rc ta tn tc) rfl (by kernel_rfl) (by kernel_rfl) (by kernel_rfl) (fun _ _ _ h => h) (Or.inl ⟨by rfl, fun u hu => by (obtain ⟨⟨e0, e1, e2, e3, e4, e5, e6, e7, e8, e9, e10⟩, ⟨f0, f1, f2, f3, f4, f5, f6, f7, f8, f9, f10⟩⟩ := hu; go_simp)⟩) ⟨eleven X9.out, eleven Y9.out⟩ ?_
    simp only [List.getElem_toArray, List.getElem_cons_succ, List.getElem_cons_zero, Act.put, List.setIfInBounds_toArray, List.set_cons_zero, List.set_cons_succ]
    refine wpAnyH_ready (rs := [10]) (by kernel_rfl) (by simp) ?_
    refine AllReadyH.cons rfl (fun K hK => ?_) AllReadyH.nil
    go_simp
    go_at_call 13
    (with_reducible refine (check_any D9.out _ _).mono ?_)
    rintro e w10 ⟨rfl, b10⟩
    have H10 := Lib.hid (H9.out.below b10)
    have D10 := Lib.hid (D9.out.below b10)
    have X10 := Lib.hid (X9.out.below b10)
    have Y10 := Lib.hid (Y9.out.below b10)
    have B10 := Lib.hid (B9.out.trans (b10.mono B9.out.size))
    clear b10 H9 D9 X9 Y9 B9
    refine hK.out _ _ ⟨eleven X10.out, eleven Y10.out⟩ (fun _ => ?_)
    clear hK K
    simp only [List.setIfInBounds_toArray, List.set_cons_zero, List.set_cons_succ]
    refine wpAnyH_ready (rs := [12]) (by kernel_rfl) (by simp) ?_
    refine AllReadyH.cons rfl (fun K hK => ?_) AllReadyH.nil
    go_simp
    go_at_call 14
    (with_reducible refine (rcheck_any D10.out _ _).mono ?_)
    rintro e w11 ⟨rfl, b11⟩
    have H11 := Lib.hid (H10.out.below b11)
    have D11 := Lib.hid (D10.out.below b11)
    have X11 := Lib.hid (X10.out.below b11)
    have Y11 := Lib.hid (Y10.out.below b11)
    have B11 := Lib.hid (B10.out.trans (b11.mono B10.out.size))
    clear b11 H10 D10 X10 Y10 B10
    refine hK.out _ _ ⟨eleven X11.out, eleven Y11.out⟩ (fun _ => ?_)
    clear hK K
    simp only [List.setIfInBounds_toArray, List.set_cons_zero, List.set_cons_succ]
    refine wpAnyH_take (i := 13) (v := .bool true) rfl (by kernel_rfl) (by kernel_rfl) (by kernel_rfl) (fun _ _ _ h => h) (Or.inl ⟨by rfl, fun u hu => by (go_simp)⟩) ⟨eleven X11.out, eleven Y11.out⟩ ?_
    simp only [List.getElem_toArray, List.getElem_cons_succ, List.getElem_cons_zero, Act.put, List.setIfInBounds_toArray, List.set_cons_zero, List.set_cons_succ]
    refine wpAnyH_take (i := 14) (v := .bool true) rfl (by kernel_rfl) (by kernel_rfl) (by kernel_rfl) (fun _ _ _ h => h) (Or.inl ⟨by rfl, fun u hu => by (go_simp)⟩) ⟨eleven X11.out, eleven Y11.out⟩ ?_
    simp only [List.getElem_toArray, List.getElem_cons_succ, List.getElem_cons_zero, Act.put, List.setIfInBounds_toArray, List.set_cons_zero, List.set_cons_succ]
    refine wpAnyH_take (i := 15) (v := .bool true) rfl (by kernel_rfl) (by kernel_rfl) (by kernel_rfl) (fun _ _ _ h => h) (Or.inl ⟨by rfl, fun u hu => by (go_simp)⟩) ⟨eleven X11.out, eleven Y11.out⟩ ?_
    simp only [List.getElem_toArray, List.getElem_cons_succ, List.getElem_cons_zero, Act.put, List.setIfInBounds_toArray, List.set_cons_zero, List.set_cons_succ]
    refine wpAnyH_done (by kernel_rfl) ?_ _
    go_wp2
    go_ret
    exact ⟨rfl, B11.out⟩
end Go.Proofs.Ytnpnamgeajifkaa
