/-
  The walk of the statement ConfigDecodes. (Written by wip/gen_cflawa.py.)
-/
import Derived.Test.YtnpnamgeajifkaaCfAwake
import Derived.Test.YtnpnamgeajifkaaCfRDec
import Derived.Test.YtnpnamgeajifkaaCfREq
namespace Go.Proofs.Ytnpnamgeajifkaa
open Go Go.RowKit
set_option linter.unusedSimpArgs false

/-- One configuration in block g. -/
def OneC (g : Nat) (c : Cfg) (pa : Option Addr) (pn pc : Nat) (sa : Option Addr) (sn sc : Nat) (u : World) : Prop := Eleven u g c pa pn pc sa sn sc

theorem InB.up {w w' : World} {a : Option Addr} {n : Nat} {zs : List Int} (h : InB w w.heap.size a n zs) (hb : Below w.heap.size w w') : InB w' w'.heap.size a n zs := (h.below (Nat.le_refl _) hb).mono hb.size

set_option maxRecDepth 20000 in
set_option maxHeartbeats 8000000 in
theorem decodes_law (a : Option Addr) (L c' : Nat) (zs : List Int) (w : World) (h : InB w w.heap.size a L zs) (hc : L ≤ c') :
    Calls Try.prog 4 #[.slice a L c'] w fun e w' => e = .returned (.bool true) ∧ Below w.heap.size w w' := by
  have hmax := h.2.1
  unfold maxLen at hmax
  have H := Lib.hid h
  clear h
  by_cases hL : (2000 : Int) < (L : Int)
  · go_enter Try.func4, Try.ntmps4
    go_wp2
    go_ret
    exact ⟨rfl, Below.refl _ _⟩
  · go_enter Try.func4, Try.ntmps4
    go_wp2_with fail
    (with_reducible refine (decode_any H.out c' hc).mono ?_)
    rintro e w1 ⟨v, rfl, hcfg, hb⟩
    obtain ⟨c, hcd⟩ : ∃ c, decC (strm zs) = c := ⟨_, rfl⟩
    rw [hcd] at hcfg
    have hck := chk_dec (strm zs)
    rw [hcd] at hck
    have HCD := Lib.hid hcd
    have HCK := Lib.hid hck
    obtain ⟨pa, pn, pc, sa, sn, sc, rfl, hl⟩ := hcfg.isCfg
    have H1 := Lib.hid (hl.alloc (.cells (cc c pa pn pc sa sn sc) 25))
    have X1 := Lib.hid (Blk.made w1 25 (cc c pa pn pc sa sn sc))
    have B1 := Lib.hid (hb.alloc hb.size (.cells (cc c pa pn pc sa sn sc) 25))
    clear hl hb hcd hck
    go_wp2_with fail
    generalize w1.alloc (.cells (cc c pa pn pc sa sn sc) 25) = W at *
    generalize w1.heap.size = g at *
    have H2 := Lib.hid H1.out.drew
    have X2 := Lib.hid (X1.out.below (below_drew (Below.refl _ _)))
    have B2 := Lib.hid (below_drew B1.out)
    clear H1 X1 B1
    refine wp_region_held_drew (S := (OneC g c pa pn pc sa sn sc)) (by kernel_rfl) (eleven X2.out) (fun _ => ?_)
    change wpAnyH _ _ _ _ _ 13 #[false, false, false, false, false, false, false, false, false, false, false, false, false] _ (World.drew _)
    refine wpAnyH_ready (rs := [0]) (by kernel_rfl) (by simp) ?_
    refine AllReadyH.cons rfl (fun K hK => ?_) AllReadyH.nil
    go_simp
    go_at_call 12
    refine (awake_any _).mono ?_
    rintro e w2 ⟨rfl, b2⟩
    have H3 := Lib.hid (H2.out.below b2)
    have X3 := Lib.hid (X2.out.below b2)
    have B3 := Lib.hid (B2.out.trans (b2.mono B2.out.size))
    clear b2 H2 X2 B2
    refine hK.out _ _ (eleven X3.out) (fun _ => ?_)
    clear hK K
    simp only [List.setIfInBounds_toArray, List.set_cons_zero, List.set_cons_succ]
    refine wpAnyH_take (i := 1) (v := .bool true) rfl (by kernel_rfl) (by kernel_rfl) (by kernel_rfl) (fun _ _ _ h => h) (Or.inl ⟨by rfl, fun u hu => by (go_simp)⟩) (eleven X3.out) ?_
    simp only [List.getElem_toArray, List.getElem_cons_succ, List.getElem_cons_zero, Act.put, List.setIfInBounds_toArray, List.set_cons_zero, List.set_cons_succ]
    refine wpAnyH_take (i := 2) (v := cv c pa pn pc sa sn sc) rfl (by kernel_rfl) (by kernel_rfl) (by kernel_rfl) (fun _ _ _ h => h) (Or.inl ⟨by rfl, fun u hu => by (obtain ⟨e0, e1, e2, e3, e4, e5, e6, e7, e8, e9, e10⟩ := hu; go_simp)⟩) (eleven X3.out) ?_
    simp only [List.getElem_toArray, List.getElem_cons_succ, List.getElem_cons_zero, Act.put, List.setIfInBounds_toArray, List.set_cons_zero, List.set_cons_succ]
    refine wpAnyH_take (i := 3) (v := .slice a L c') rfl (by kernel_rfl) (by kernel_rfl) (by kernel_rfl) (fun _ _ _ h => h) (Or.inl ⟨by rfl, fun u hu => by (go_simp)⟩) (eleven X3.out) ?_
    simp only [List.getElem_toArray, List.getElem_cons_succ, List.getElem_cons_zero, Act.put, List.setIfInBounds_toArray, List.set_cons_zero, List.set_cons_succ]
    refine wpAnyH_ready (rs := [4]) (by kernel_rfl) (by simp) ?_
    refine AllReadyH.cons rfl (fun K hK => ?_) AllReadyH.nil
    go_simp
    go_at_call 11
    (with_reducible refine (rdecode_any (H.out.up B3.out) c').mono ?_)
    rintro e w3 ⟨v3, rfl, hcfg, b3⟩
    rw [HCD.out] at hcfg
    obtain ⟨qa, qn, qc, ta, tn, tc, rfl, hl⟩ := hcfg.isCfg
    have HQ := Lib.hid hl
    have H4 := Lib.hid (H3.out.below b3)
    have X4 := Lib.hid (X3.out.below b3)
    have B4 := Lib.hid (B3.out.trans (b3.mono B3.out.size))
    clear hl
    clear b3 H3 X3 B3
    refine hK.out _ _ (eleven X4.out) (fun _ => ?_)
    clear hK K
    simp only [List.setIfInBounds_toArray, List.set_cons_zero, List.set_cons_succ]
    refine wpAnyH_ready (rs := [5]) (by kernel_rfl) (by simp) ?_
    refine AllReadyH.cons rfl (fun K hK => ?_) AllReadyH.nil
    go_simp
    go_at_call 16
    (with_reducible refine (requal_any H4.out HQ.out _ _ _ _).mono ?_)
    rintro e w4 ⟨rfl, b4⟩
    have H5 := Lib.hid (H4.out.below b4)
    have X5 := Lib.hid (X4.out.below b4)
    have B5 := Lib.hid (B4.out.trans (b4.mono B4.out.size))
    rw [decide_eq_true rfl]
    clear HQ
    clear b4 H4 X4 B4
    refine hK.out _ _ (eleven X5.out) (fun _ => ?_)
    clear hK K
    simp only [List.setIfInBounds_toArray, List.set_cons_zero, List.set_cons_succ]
    refine wpAnyH_take (i := 6) (v := .bool true) rfl (by kernel_rfl) (by kernel_rfl) (by kernel_rfl) (fun _ _ _ h => h) (Or.inl ⟨by rfl, fun u hu => by (go_simp)⟩) (eleven X5.out) ?_
    simp only [List.getElem_toArray, List.getElem_cons_succ, List.getElem_cons_zero, Act.put, List.setIfInBounds_toArray, List.set_cons_zero, List.set_cons_succ]
    refine wpAnyH_take (i := 7) (v := .bool true) rfl (by kernel_rfl) (by kernel_rfl) (by kernel_rfl) (fun _ _ _ h => h) (Or.inl ⟨by rfl, fun u hu => by (go_simp)⟩) (eleven X5.out) ?_
    simp only [List.getElem_toArray, List.getElem_cons_succ, List.getElem_cons_zero, Act.put, List.setIfInBounds_toArray, List.set_cons_zero, List.set_cons_succ]
    refine wpAnyH_take (i := 8) (v := cv c pa pn pc sa sn sc) rfl (by kernel_rfl) (by kernel_rfl) (by kernel_rfl) (fun _ _ _ h => h) (Or.inl ⟨by rfl, fun u hu => by (obtain ⟨e0, e1, e2, e3, e4, e5, e6, e7, e8, e9, e10⟩ := hu; go_simp)⟩) (eleven X5.out) ?_
    simp only [List.getElem_toArray, List.getElem_cons_succ, List.getElem_cons_zero, Act.put, List.setIfInBounds_toArray, List.set_cons_zero, List.set_cons_succ]
    refine wpAnyH_ready (rs := [9]) (by kernel_rfl) (by simp) ?_
    refine AllReadyH.cons rfl (fun K hK => ?_) AllReadyH.nil
    go_simp
    go_at_call 13
    (with_reducible refine (check_any H5.out _ _).mono ?_)
    rintro e w5 ⟨rfl, b5⟩
    have H6 := Lib.hid (H5.out.below b5)
    have X6 := Lib.hid (X5.out.below b5)
    have B6 := Lib.hid (B5.out.trans (b5.mono B5.out.size))
    rw [HCK.out]
    clear b5 H5 X5 B5
    refine hK.out _ _ (eleven X6.out) (fun _ => ?_)
    clear hK K
    simp only [List.setIfInBounds_toArray, List.set_cons_zero, List.set_cons_succ]
    refine wpAnyH_take (i := 10) (v := .bool true) rfl (by kernel_rfl) (by kernel_rfl) (by kernel_rfl) (fun _ _ _ h => h) (Or.inl ⟨by rfl, fun u hu => by (go_simp)⟩) (eleven X6.out) ?_
    simp only [List.getElem_toArray, List.getElem_cons_succ, List.getElem_cons_zero, Act.put, List.setIfInBounds_toArray, List.set_cons_zero, List.set_cons_succ]
    refine wpAnyH_take (i := 11) (v := .bool true) rfl (by kernel_rfl) (by kernel_rfl) (by kernel_rfl) (fun _ _ _ h => h) (Or.inl ⟨by rfl, fun u hu => by (go_simp)⟩) (eleven X6.out) ?_
    simp only [List.getElem_toArray, List.getElem_cons_succ, List.getElem_cons_zero, Act.put, List.setIfInBounds_toArray, List.set_cons_zero, List.set_cons_succ]
    refine wpAnyH_take (i := 12) (v := .bool true) rfl (by kernel_rfl) (by kernel_rfl) (by kernel_rfl) (fun _ _ _ h => h) (Or.inl ⟨by rfl, fun u hu => by (go_simp)⟩) (eleven X6.out) ?_
    simp only [List.getElem_toArray, List.getElem_cons_succ, List.getElem_cons_zero, Act.put, List.setIfInBounds_toArray, List.set_cons_zero, List.set_cons_succ]
    refine wpAnyH_done (by kernel_rfl) ?_ _
    go_wp2
    go_ret
    exact ⟨rfl, B6.out⟩
end Go.Proofs.Ytnpnamgeajifkaa
