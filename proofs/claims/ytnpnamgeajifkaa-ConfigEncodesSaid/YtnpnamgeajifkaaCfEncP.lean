/-
  Contract of the program's Encode. (Written by wip/gen_cfencp.py.)
-/
import Derived.Test.YtnpnamgeajifkaaCfWrB
import Derived.Test.YtnpnamgeajifkaaCfLight
import Derived.Test.YtnpnamgeajifkaaCfDec
import Derived.Test.YtnpnamgeajifkaaCfChkB
import Derived.Test.YtnpnamgeajifkaaCfEqual
namespace Go.Proofs.Ytnpnamgeajifkaa
open Go Go.RowKit
set_option linter.unusedSimpArgs false

/-- One configuration in block g. -/
def OneE (g : Nat) (c : Cfg) (pa : Option Addr) (pn pc : Nat) (sa : Option Addr) (sn sc : Nat) (u : World) : Prop := Eleven u g c pa pn pc sa sn sc
theorem byts_in (c : Cfg) {zs : List Int} (h : Trimmed (byts c) zs) : ∀ z ∈ zs, 0 ≤ z ∧ z ≤ 255 := by
  obtain ⟨q, _, rfl, _, _⟩ := h
  intro z hz
  have hz2 := List.mem_of_mem_take hz
  unfold byts at hz2
  obtain ⟨e, _, rfl⟩ := List.mem_map.1 hz2
  have := modk e.1 (k := 256) (by omega)
  omega

set_option maxRecDepth 20000 in
set_option maxHeartbeats 8000000 in
theorem encode_any {w : World} {B0 : Nat} {c : Cfg} {pa : Option Addr} {pn : Nat} {sa : Option Addr} {sn : Nat} (h : Lists w B0 c pa pn sa sn) (pc sc : Nat) :
    Calls Try.prog 17 #[cv c pa pn pc sa sn sc] w (Encoded c w) := by
  have H1 := Lib.hid (h.alloc (.cells (cc c pa pn pc sa sn sc) 25))
  have X1 := Lib.hid (Blk.made w 25 (cc c pa pn pc sa sn sc))
  have B1 := Lib.hid (below_one w (.cells (cc c pa pn pc sa sn sc) 25))
  clear h
  go_enter Try.func17, Try.ntmps17
  go_wp2_with fail
  generalize w.alloc (.cells (cc c pa pn pc sa sn sc) 25) = W0 at *
  (with_reducible refine (check_any H1.out _ _).mono ?_)
  rintro e W1 ⟨rfl, b1⟩
  have H2 := Lib.hid (H1.out.below b1)
  have X2 := Lib.hid (X1.out.below b1)
  have B2 := Lib.hid (B1.out.trans (b1.mono B1.out.size))
  clear b1 H1 X1 B1
  by_cases hk : chk c = 0
  case neg =>
    obtain ⟨R, hR⟩ : ∃ R, chk c = R := ⟨_, rfl⟩
    have HR := Lib.hid hR
    rw [hR] at hk ⊢
    have hp2 : (R != 0) = true := by simpa using hk
    have HK := Lib.hid hk
    clear hk hR
    go_wp2
    go_ret2
    exact ⟨_, [], _, rfl, OwnB.nil _ _, .inl ⟨by rw [HR.out]; exact HK.out, HR.out.symm, rfl⟩, B2.out⟩
  rw [hk]
  have HK := Lib.hid hk
  obtain ⟨e0, e1, e2, e3, e4, e5, e6, e7, e8, e9, e10⟩ := eleven X2.out
  go_wp2_with fail
  (with_reducible refine (write_any H2.out _ _ hk).mono ?_)
  rintro e W2 ⟨v, zs, rfl, ho, ht, b2⟩
  obtain ⟨a, cp, rfl, hi, hcp⟩ := ho.inB (byts_in c ht)
  obtain ⟨n, hn⟩ : ∃ n, zs.length = n := ⟨_, rfl⟩
  rw [hn] at hi hcp ho ⊢
  have hiff := dec_iff hk ht
  have hs1 := B2.out.size
  have HO := Lib.hid (ho.mono hs1)
  have HI := Lib.hid hi
  have HT := Lib.hid ht
  have H3 := Lib.hid (H2.out.below b2)
  have X3 := Lib.hid (X2.out.below b2)
  have B3 := Lib.hid (B2.out.trans (b2.mono B2.out.size))
  obtain ⟨t, htt⟩ : ∃ t, fits c = t := ⟨_, rfl⟩
  have HTT := Lib.hid htt
  have HD := Lib.hid (show decide (decC (strm zs) = c) = t by
    rw [← htt, Bool.eq_iff_iff, decide_eq_true_iff]
    exact hiff)
  clear hi hn ho ht b2 hiff H2 X2 B2 hk htt e0 e1 e2 e3 e4 e5 e6 e7 e8 e9 e10 hs1
  go_wp2_with fail
  have H4 := Lib.hid H3.out.drew
  have X4 := Lib.hid (X3.out.below (below_drew (Below.refl _ _)))
  have B4 := Lib.hid (below_drew B3.out)
  have HO4 := Lib.hid (HO.out.below (below_drew (Below.refl _ _)))
  have HI4 := Lib.hid (show InB W2.drew W2.drew.heap.size a n zs from HI.out)
  clear H3 X3 B3 HO HI
  cases t with
  | false =>
    refine wp_region_held_drew (S := (OneE w.heap.size c pa pn pc sa sn sc)) (by kernel_rfl) (eleven X4.out) (fun _ => ?_)
    change wpAnyH _ _ _ _ _ 5 #[false, false, false, false, false] _ (World.drew _)
    refine wpAnyH_take (i := 0) (v := .slice a n cp) rfl (by kernel_rfl) (by kernel_rfl) (by kernel_rfl) (fun _ _ _ h => h) (Or.inl ⟨by rfl, fun u hu => by (go_simp)⟩) (eleven X4.out) ?_
    simp only [List.getElem_toArray, List.getElem_cons_succ, List.getElem_cons_zero, Act.put, List.setIfInBounds_toArray, List.set_cons_zero, List.set_cons_succ]
    refine wpAnyH_take (i := 2) (v := cv c pa pn pc sa sn sc) rfl (by kernel_rfl) (by kernel_rfl) (by kernel_rfl) (fun _ _ _ h => h) (Or.inl ⟨by rfl, fun u hu => by (obtain ⟨e0, e1, e2, e3, e4, e5, e6, e7, e8, e9, e10⟩ := hu; go_simp)⟩) (eleven X4.out) ?_
    simp only [List.getElem_toArray, List.getElem_cons_succ, List.getElem_cons_zero, Act.put, List.setIfInBounds_toArray, List.set_cons_zero, List.set_cons_succ]
    refine wpAnyH_ready (rs := [1]) (by kernel_rfl) (by simp) ?_
    refine AllReadyH.cons rfl (fun K hK => ?_) AllReadyH.nil
    go_simp
    go_at_call 15
    (with_reducible refine (decode_any HI4.out cp hcp).mono ?_)
    rintro e w5 ⟨v5, rfl, hcfg, b5⟩
    obtain ⟨qa, qn, qc, ta, tn, tc, rfl, hl⟩ := hcfg.isCfg
    have HQ := Lib.hid hl
    have H5 := Lib.hid (H4.out.below b5)
    have X5 := Lib.hid (X4.out.below b5)
    have B5 := Lib.hid (B4.out.trans (b5.mono B4.out.size))
    have HO5 := Lib.hid (HO4.out.below b5)
    clear hl hcfg b5 H4 X4 B4 HO4 HI4
    refine hK.out _ _ (eleven X5.out) (fun _ => ?_)
    clear hK K
    simp only [List.setIfInBounds_toArray, List.set_cons_zero, List.set_cons_succ]
    refine wpAnyH_ready (rs := [3]) (by kernel_rfl) (by simp) ?_
    refine AllReadyH.cons rfl (fun K hK => ?_) AllReadyH.nil
    go_simp
    go_at_call 20
    (with_reducible refine (equal_any HQ.out H5.out _ _ _ _).mono ?_)
    rintro e w6 ⟨rfl, b6⟩
    rw [HD.out]
    have X6 := Lib.hid (X5.out.below b6)
    have B6 := Lib.hid (B5.out.trans (b6.mono B5.out.size))
    have HO6 := Lib.hid (HO5.out.below b6)
    clear b6 HQ H5 X5 B5 HO5
    refine hK.out _ _ (eleven X6.out) (fun _ => ?_)
    clear hK K
    simp only [List.setIfInBounds_toArray, List.set_cons_zero, List.set_cons_succ]
    refine wpAnyH_take (i := 4) (v := .bool true) rfl (by kernel_rfl) (by kernel_rfl) (by kernel_rfl) (fun _ _ _ h => h) (Or.inl ⟨by rfl, fun u hu => by (go_simp)⟩) (eleven X6.out) ?_
    simp only [List.getElem_toArray, List.getElem_cons_succ, List.getElem_cons_zero, Act.put, List.setIfInBounds_toArray, List.set_cons_zero, List.set_cons_succ]
    refine wpAnyH_done (by kernel_rfl) ?_ _
    go_wp2
    go_ret2
    exact ⟨_, [], _, rfl, OwnB.nil _ _, .inr (.inl ⟨HK.out, HTT.out, rfl, rfl⟩), B6.out⟩
  | true =>
    refine wp_region_held_drew (S := (OneE w.heap.size c pa pn pc sa sn sc)) (by kernel_rfl) (eleven X4.out) (fun _ => ?_)
    change wpAnyH _ _ _ _ _ 5 #[false, false, false, false, false] _ (World.drew _)
    refine wpAnyH_take (i := 0) (v := .slice a n cp) rfl (by kernel_rfl) (by kernel_rfl) (by kernel_rfl) (fun _ _ _ h => h) (Or.inl ⟨by rfl, fun u hu => by (go_simp)⟩) (eleven X4.out) ?_
    simp only [List.getElem_toArray, List.getElem_cons_succ, List.getElem_cons_zero, Act.put, List.setIfInBounds_toArray, List.set_cons_zero, List.set_cons_succ]
    refine wpAnyH_take (i := 2) (v := cv c pa pn pc sa sn sc) rfl (by kernel_rfl) (by kernel_rfl) (by kernel_rfl) (fun _ _ _ h => h) (Or.inl ⟨by rfl, fun u hu => by (obtain ⟨e0, e1, e2, e3, e4, e5, e6, e7, e8, e9, e10⟩ := hu; go_simp)⟩) (eleven X4.out) ?_
    simp only [List.getElem_toArray, List.getElem_cons_succ, List.getElem_cons_zero, Act.put, List.setIfInBounds_toArray, List.set_cons_zero, List.set_cons_succ]
    refine wpAnyH_ready (rs := [1]) (by kernel_rfl) (by simp) ?_
    refine AllReadyH.cons rfl (fun K hK => ?_) AllReadyH.nil
    go_simp
    go_at_call 15
    (with_reducible refine (decode_any HI4.out cp hcp).mono ?_)
    rintro e w5 ⟨v5, rfl, hcfg, b5⟩
    obtain ⟨qa, qn, qc, ta, tn, tc, rfl, hl⟩ := hcfg.isCfg
    have HQ := Lib.hid hl
    have H5 := Lib.hid (H4.out.below b5)
    have X5 := Lib.hid (X4.out.below b5)
    have B5 := Lib.hid (B4.out.trans (b5.mono B4.out.size))
    have HO5 := Lib.hid (HO4.out.below b5)
    clear hl hcfg b5 H4 X4 B4 HO4 HI4
    refine hK.out _ _ (eleven X5.out) (fun _ => ?_)
    clear hK K
    simp only [List.setIfInBounds_toArray, List.set_cons_zero, List.set_cons_succ]
    refine wpAnyH_ready (rs := [3]) (by kernel_rfl) (by simp) ?_
    refine AllReadyH.cons rfl (fun K hK => ?_) AllReadyH.nil
    go_simp
    go_at_call 20
    (with_reducible refine (equal_any HQ.out H5.out _ _ _ _).mono ?_)
    rintro e w6 ⟨rfl, b6⟩
    rw [HD.out]
    have X6 := Lib.hid (X5.out.below b6)
    have B6 := Lib.hid (B5.out.trans (b6.mono B5.out.size))
    have HO6 := Lib.hid (HO5.out.below b6)
    clear b6 HQ H5 X5 B5 HO5
    refine hK.out _ _ (eleven X6.out) (fun _ => ?_)
    clear hK K
    simp only [List.setIfInBounds_toArray, List.set_cons_zero, List.set_cons_succ]
    refine wpAnyH_take (i := 4) (v := .bool false) rfl (by kernel_rfl) (by kernel_rfl) (by kernel_rfl) (fun _ _ _ h => h) (Or.inl ⟨by rfl, fun u hu => by (go_simp)⟩) (eleven X6.out) ?_
    simp only [List.getElem_toArray, List.getElem_cons_succ, List.getElem_cons_zero, Act.put, List.setIfInBounds_toArray, List.set_cons_zero, List.set_cons_succ]
    refine wpAnyH_done (by kernel_rfl) ?_ _
    go_wp2
    go_ret2
    exact ⟨_, zs, _, rfl, HO6.out, .inr (.inr ⟨HK.out, HTT.out, rfl, by rw [← byts_fit HK.out HTT.out]; exact HT.out⟩), B6.out⟩
end Go.Proofs.Ytnpnamgeajifkaa
