/-
  The reference's apply: a push that is fine; apply whole. (Written by wip/gen_rap.py.)
-/
import Derived.Test.YtjehiekmlbeaeaaGreatRapA
namespace Go.Proofs.YtjehiekmlbeaeaaGreat
open Go Go.RowKit
set_option linter.unusedSimpArgs false
set_option linter.unusedVariables false

theorem ints_at1 {w : World} {q : Nat} {x : Int} (h : Blk w q 3 #[.int .i64 x]) : ∀ j u, (([x] : List Int).map (Value.int .i64))[j]? = some u → w.cell? ((⟨q, 0, none⟩ : Addr).add j) = some u := by
  intro j u hj
  have e : (⟨q, 0, none⟩ : Addr).add j = ⟨q, j, none⟩ := by unfold Addr.add; split <;> simp_all
  rw [e, h.at_ j, ← hj]
  rw [List.getElem?_toArray]
  rfl
theorem grown_below {w0 w w' : World} {v : Value} {l : List Int} (hb : Below w0.heap.size w0 w) (h : OwnI w w0.heap.size v l) (hg : w.grownBy w' v.ownBlock) : Below w0.heap.size w0 w' := by
  have hf : Fr v.ownBlock.toList w w' := ⟨hg.os, hg.tape, hg.output, hg.size, fun k hk hn => hg.block k hk (fun e => hn (by first | (rw [Option.mem_toList]; exact e) | (rw [Option.mem_toList]; exact e.symm)))⟩
  refine below_of_fr hb hf (fun y hy => ?_)
  rw [Option.mem_toList] at hy
  exact (h.lt y hy).1
theorem grown_op {w w' : World} {B : Nat} {v : Value} {l : List Int} {g : Nat} {cs : Array Value} (hG : Blk w g 80 cs) (h : OwnI w B v l) (hg : w.grownBy w' v.ownBlock) : Blk w' g 80 cs := by
  refine hG.of_same (hg.block g hG.lt (fun e => ?_))
  rcases h.2 with ⟨rfl, _⟩ | ⟨g', cap, cur, rfl, _, hg', _⟩
  · first | cases e | (cases e.symm)
  · have e2 : g' = g := by first | exact Option.some.inj e | exact (Option.some.inj e).symm
    subst e2
    exact absurd rfl (hG.apart hg' (by decide))
/-- The end of a push that is fine. -/
theorem fine_end {w w' : World} {k m oa ob ov cap : Int} {l : List Int} {N ub c : Nat} {a : Option Addr} {b : Bool} {m' : Nat} (hb : b = decide ((N : Int) < cap)) (hN : l.length = N) (hub : ub < w.heap.size) (hl : N ≤ 999) (hB : Below w.heap.size w w') (hown : OwnI w' w.heap.size (.slice a m' c) (l ++ [ov])) :
    RapD cap ⟨k, m, oa, ob, 0, ov⟩ l ub w (.returned (.tuple #[.slice a m' c, .bool b])) w' := by
  obtain ⟨a', c', e, hc, hcell⟩ := hown.form
  cases e
  refine ⟨_, b, rfl, hB, fun hbt => ⟨l ++ [ov], appO_fine rfl (by rw [hN]; rw [hb] at hbt; exact of_decide_eq_true hbt), ?_⟩, fun hbf => appO_f0 rfl (by rw [hN]; rw [hb] at hbf; exact of_decide_eq_false hbf)⟩
  obtain ⟨g, cc, e0⟩ := hown.at0 (by simp)
  have hlt := hown.lt g (by rw [e0]; rfl)
  refine ⟨a, c, rfl, hc, ⟨rfl, by rw [List.length_append, hN]; unfold maxLen; simp; omega, fun i hi => ?_⟩, by rw [List.length_append, hN]; simp; omega, fun x hx => ?_, fun hx => ?_⟩
  · obtain ⟨g2, e2, h2⟩ := hcell i hi
    subst e2
    refine ⟨_, rfl, (hown.lt g2 rfl).2, ?_⟩
    have e3 : (⟨g2, 0, none⟩ : Addr).add i = ⟨g2, i, none⟩ := by unfold Addr.add; split <;> simp_all
    rw [e3]
    exact h2
  · cases e0
    cases hx
    show g ≠ ub
    omega
  · subst hx
    cases e0
set_option maxRecDepth 100000 in
set_option maxHeartbeats 4000000 in
theorem rapply_fine {w : World} {o : OpR} {l : List Int} {a : Option Addr} {c ub : Nat} {cap : Int} (h : InInts w a l.length l) (hc : l.length ≤ c) (hl : l.length ≤ 999) (hub : ub < w.heap.size) (hn0 : a = none → c = 0) (hc0 : o.c = 0) :
    Calls Tryz.prog 104 #[.agg (opC o), .slice a l.length c, .int .i64 cap] w (RapD cap o l ub w) := by
  obtain ⟨k, m, oa, ob, oc, ov⟩ := o
  replace hc0 : oc = 0 := hc0
  subst hc0
  have hB := below_one w (.cells (opC ⟨k, m, oa, ob, 0, ov⟩) 80)
  have hE := Blk.made w 80 (opC ⟨k, m, oa, ob, 0, ov⟩)
  have e4 := hE.at_ 4
  have G := Lib.hid hE
  have BB := Lib.hid hB
  have II := Lib.hid (h.below hB)
  have HN0 := Lib.hid hn0
  have HUB := Lib.hid hub
  obtain ⟨N, hN⟩ : ∃ N, l.length = N := ⟨_, rfl⟩
  rw [hN] at II hc hl ⊢
  have HL := Lib.hid hN
  have HLN := Lib.hid hl
  clear h hB hE hn0 hub hN
  go_enter Tryz.func104, Tryz.ntmps104
  go_wp2_with fail
  have G0 := Lib.hid (show Blk (w.alloc (.cells (opC ⟨k, m, oa, ob, 0, ov⟩) 80)).drew w.heap.size 80 (opC ⟨k, m, oa, ob, 0, ov⟩) from G.out.below (below_drew (Below.refl _ _)))
  have B0 := Lib.hid (below_drew BB.out)
  have IN0 := Lib.hid (II.out.below (below_drew (Below.refl _ _)))
  clear G BB II e4
  refine wp_region_held_drew (S := (fun w' : World => w'.cell? ⟨w.heap.size, 5, none⟩ = some (.int .i64 ov))) (by kernel_rfl) (G0.out.at_ 5) (fun _ => ?_)
  change wpAnyH _ _ _ _ _ 13 #[false, false, false, false, false, false, false, false, false, false, false, false, false] _ (World.drew _)
  generalize (w.alloc (.cells (opC ⟨k, m, oa, ob, 0, ov⟩) 80)).drew = W0 at *
  refine wpAnyH_take (i := 1) (v := .slice a N c) rfl (by kernel_rfl) (by kernel_rfl) (by kernel_rfl) (fun _ _ _ h => h) (Or.inl ⟨by rfl, fun u hu => by (go_simp)⟩) (G0.out.at_ 5) ?_
  simp only [List.getElem_toArray, List.getElem_cons_succ, List.getElem_cons_zero, Act.put, List.setIfInBounds_toArray, List.set_cons_zero, List.set_cons_succ]
  refine wpAnyH_take (i := 3) (v := .pointer (some ⟨w.heap.size, 5, none⟩)) rfl (by kernel_rfl) (by kernel_rfl) (by kernel_rfl) (fun _ _ _ h => h) (Or.inl ⟨by rfl, fun u hu => by (go_simp)⟩) (G0.out.at_ 5) ?_
  simp only [List.getElem_toArray, List.getElem_cons_succ, List.getElem_cons_zero, Act.put, List.setIfInBounds_toArray, List.set_cons_zero, List.set_cons_succ]
  refine wpAnyH_take (i := 4) (v := .int .i64 ov) rfl (by kernel_rfl) (by kernel_rfl) (by kernel_rfl) (fun _ _ _ h => h) (Or.inl ⟨by rfl, fun u hu => by (go_simp)⟩) (G0.out.at_ 5) ?_
  simp only [List.getElem_toArray, List.getElem_cons_succ, List.getElem_cons_zero, Act.put, List.setIfInBounds_toArray, List.set_cons_zero, List.set_cons_succ]
  refine wpAnyH_take (i := 7) (v := .slice a N c) rfl (by kernel_rfl) (by kernel_rfl) (by kernel_rfl) (fun _ _ _ h => h) (Or.inl ⟨by rfl, fun u hu => by (go_simp)⟩) (G0.out.at_ 5) ?_
  simp only [List.getElem_toArray, List.getElem_cons_succ, List.getElem_cons_zero, Act.put, List.setIfInBounds_toArray, List.set_cons_zero, List.set_cons_succ]
  refine wpAnyH_take (i := 8) (v := .int .i64 N) rfl (by kernel_rfl) (by kernel_rfl) (by kernel_rfl) (fun _ _ _ h => h) (Or.inl ⟨by rfl, fun u hu => by (go_simp)⟩) (G0.out.at_ 5) ?_
  simp only [List.getElem_toArray, List.getElem_cons_succ, List.getElem_cons_zero, Act.put, List.setIfInBounds_toArray, List.set_cons_zero, List.set_cons_succ]
  refine wpAnyH_take (i := 9) (v := .int .i64 cap) rfl (by kernel_rfl) (by kernel_rfl) (by kernel_rfl) (fun _ _ _ h => h) (Or.inl ⟨by rfl, fun u hu => by (go_simp)⟩) (G0.out.at_ 5) ?_
  simp only [List.getElem_toArray, List.getElem_cons_succ, List.getElem_cons_zero, Act.put, List.setIfInBounds_toArray, List.set_cons_zero, List.set_cons_succ]
  refine wpAnyH_take (i := 10) (v := .bool (decide ((N : Int) < cap))) rfl (by kernel_rfl) (by kernel_rfl) (by kernel_rfl) (fun _ _ _ h => h) (Or.inl ⟨by rfl, fun u hu => by (go_simp)⟩) (G0.out.at_ 5) ?_
  simp only [List.getElem_toArray, List.getElem_cons_succ, List.getElem_cons_zero, Act.put, List.setIfInBounds_toArray, List.set_cons_zero, List.set_cons_succ]
  refine wpAnyH_ready (rs := [0, 5]) (by kernel_rfl) (by simp) ?_
  refine AllReadyH.cons rfl (fun KK hK => ?_) (AllReadyH.cons rfl (fun KK hK => ?_) AllReadyH.nil)
  · skip
    go_simp
    have hb := below_one W0 (.cells #[] 3)
    have E1 := Lib.hid (show OwnI (W0.alloc (.cells #[] 3)) w.heap.size (.slice (some ⟨W0.heap.size, 0, none⟩) 0 0) [] from OwnI.lit W0 w.heap.size [] B0.out.size (by simp))
    have G1 := Lib.hid (G0.out.below hb)
    have B1 := Lib.hid (B0.out.trans (hb.mono B0.out.size))
    have IN1 := Lib.hid (IN0.out.below hb)
    refine hK.out _ _ (G1.out.at_ 5) (fun _ => ?_)
    clear hK KK hb
    simp only [List.getElem_toArray, List.getElem_cons_succ, List.getElem_cons_zero, Act.put, List.setIfInBounds_toArray, List.set_cons_zero, List.set_cons_succ]
    generalize W0.alloc (.cells #[] 3) = W1 at *
    generalize W0.heap.size = q1 at *
    refine wpAnyH_ready (rs := [2, 5]) (by kernel_rfl) (by simp) ?_
    refine AllReadyH.cons rfl (fun KK hK => ?_) (AllReadyH.cons rfl (fun KK hK => ?_) AllReadyH.nil)
    · skip
      refine wp_appL (.tmp 12) (.tmp 13) rfl rfl E1.out rfl IN1.out HN0.out (by have := HL.out; simp; omega) B1.out.size ?_
      intro v1 W2 hown hgr
      rw [List.nil_append] at hown
      have R2 := Lib.hid hown
      have G2 := Lib.hid (grown_op G1.out E1.out hgr)
      have B2 := Lib.hid (grown_below B1.out E1.out hgr)
      obtain ⟨va, vl, vc, hve⟩ : ∃ a l c, v1 = .slice a l c := (by obtain ⟨a, c, e, _⟩ := hown.form; exact ⟨a, _, c, e⟩)
      subst hve
      refine hK.out _ _ (G2.out.at_ 5) (fun _ => ?_)
      clear hK KK hown hgr
      simp only [List.getElem_toArray, List.getElem_cons_succ, List.getElem_cons_zero, Act.put, List.setIfInBounds_toArray, List.set_cons_zero, List.set_cons_succ]
      refine wpAnyH_ready (rs := [5]) (by kernel_rfl) (by simp) ?_
      refine AllReadyH.cons rfl (fun KK hK => ?_) AllReadyH.nil
      go_simp
      have hb := below_one W2 (.cells #[.int .i64 ov] 3)
      have V3 := Lib.hid (show Blk (W2.alloc (.cells #[.int .i64 ov] 3)) W2.heap.size 3 #[.int .i64 ov] from Blk.made W2 3 #[.int .i64 ov])
      have G3 := Lib.hid (G2.out.below hb)
      have B3 := Lib.hid (B2.out.trans (hb.mono B2.out.size))
      have R3 := Lib.hid (R2.out.below hb)
      refine hK.out _ _ (G3.out.at_ 5) (fun _ => ?_)
      clear hK KK hb
      simp only [List.getElem_toArray, List.getElem_cons_succ, List.getElem_cons_zero, Act.put, List.setIfInBounds_toArray, List.set_cons_zero, List.set_cons_succ]
      generalize W2.alloc (.cells #[.int .i64 ov] 3) = W3 at *
      generalize W2.heap.size = q3 at *
      refine wpAnyH_ready (rs := [6]) (by kernel_rfl) (by simp) ?_
      refine AllReadyH.cons rfl (fun KK hK => ?_) AllReadyH.nil
      refine wp_appIs (.tmp 14) (.tmp 17) rfl rfl R3.out (ns := [ov]) rfl rfl (ints_at1 V3.out) (by have := HL.out; have := HLN.out; omega) B3.out.size ?_
      intro v2 W4 hown hgr
      have G4 := Lib.hid (grown_op G3.out R3.out hgr)
      have B4 := Lib.hid (grown_below B3.out R3.out hgr)
      have OW := Lib.hid hown
      obtain ⟨va2, vl2, vc2, hve2⟩ : ∃ a l c, v2 = .slice a l c := (by obtain ⟨a, c, e, _⟩ := hown.form; exact ⟨a, _, c, e⟩)
      subst hve2
      refine hK.out _ _ (G4.out.at_ 5) (fun _ => ?_)
      clear hK KK hown hgr
      simp only [List.getElem_toArray, List.getElem_cons_succ, List.getElem_cons_zero, Act.put, List.setIfInBounds_toArray, List.set_cons_zero, List.set_cons_succ]
      refine wpAnyH_take (i := 11) (v := .slice va2 vl2 vc2) rfl (by kernel_rfl) (by kernel_rfl) (by kernel_rfl) (fun _ _ _ h => h) (Or.inl ⟨by rfl, fun u hu => by (go_simp)⟩) (G4.out.at_ 5) ?_
      simp only [List.getElem_toArray, List.getElem_cons_succ, List.getElem_cons_zero, Act.put, List.setIfInBounds_toArray, List.set_cons_zero, List.set_cons_succ]
      refine wpAnyH_take (i := 12) (v := .bool (decide ((N : Int) < cap))) rfl (by kernel_rfl) (by kernel_rfl) (by kernel_rfl) (fun _ _ _ h => h) (Or.inl ⟨by rfl, fun u hu => by (go_simp)⟩) (G4.out.at_ 5) ?_
      simp only [List.getElem_toArray, List.getElem_cons_succ, List.getElem_cons_zero, Act.put, List.setIfInBounds_toArray, List.set_cons_zero, List.set_cons_succ]
      refine wpAnyH_done (by kernel_rfl) ?_ _
      clear G4
      go_wp2
      go_ret2
      exact fine_end rfl HL.out HUB.out HLN.out B4.out OW.out
    · skip
      go_simp
      have hb := below_one W1 (.cells #[.int .i64 ov] 3)
      have V2 := Lib.hid (show Blk (W1.alloc (.cells #[.int .i64 ov] 3)) W1.heap.size 3 #[.int .i64 ov] from Blk.made W1 3 #[.int .i64 ov])
      have HQV := Lib.hid (show W1.heap.size ≠ q1 from by have := (E1.out.lt q1 rfl).2; omega)
      have G2 := Lib.hid (G1.out.below hb)
      have B2 := Lib.hid (B1.out.trans (hb.mono B1.out.size))
      have IN2 := Lib.hid (IN1.out.below hb)
      have E2 := Lib.hid (E1.out.below hb)
      refine hK.out _ _ (G2.out.at_ 5) (fun _ => ?_)
      clear hK KK hb
      simp only [List.getElem_toArray, List.getElem_cons_succ, List.getElem_cons_zero, Act.put, List.setIfInBounds_toArray, List.set_cons_zero, List.set_cons_succ]
      generalize W1.alloc (.cells #[.int .i64 ov] 3) = W2 at *
      generalize W1.heap.size = q2 at *
      refine wpAnyH_ready (rs := [2]) (by kernel_rfl) (by simp) ?_
      refine AllReadyH.cons rfl (fun KK hK => ?_) AllReadyH.nil
      refine wp_appL (.tmp 12) (.tmp 13) rfl rfl E2.out rfl IN2.out HN0.out (by have := HL.out; simp; omega) B2.out.size ?_
      intro v1 W3 hown hgr
      rw [List.nil_append] at hown
      have R3 := Lib.hid hown
      have G3 := Lib.hid (grown_op G2.out E2.out hgr)
      have B3 := Lib.hid (grown_below B2.out E2.out hgr)
      have V3 := Lib.hid (V2.out.of_same (hgr.block q2 V2.out.lt (fun e => by first | exact HQV.out (Option.some.inj e).symm | exact HQV.out (Option.some.inj e))))
      obtain ⟨va, vl, vc, hve⟩ : ∃ a l c, v1 = .slice a l c := (by obtain ⟨a, c, e, _⟩ := hown.form; exact ⟨a, _, c, e⟩)
      subst hve
      refine hK.out _ _ (G3.out.at_ 5) (fun _ => ?_)
      clear hK KK hown hgr
      simp only [List.getElem_toArray, List.getElem_cons_succ, List.getElem_cons_zero, Act.put, List.setIfInBounds_toArray, List.set_cons_zero, List.set_cons_succ]
      refine wpAnyH_ready (rs := [6]) (by kernel_rfl) (by simp) ?_
      refine AllReadyH.cons rfl (fun KK hK => ?_) AllReadyH.nil
      refine wp_appIs (.tmp 14) (.tmp 17) rfl rfl R3.out (ns := [ov]) rfl rfl (ints_at1 V3.out) (by have := HL.out; have := HLN.out; omega) B3.out.size ?_
      intro v2 W4 hown hgr
      have G4 := Lib.hid (grown_op G3.out R3.out hgr)
      have B4 := Lib.hid (grown_below B3.out R3.out hgr)
      have OW := Lib.hid hown
      obtain ⟨va2, vl2, vc2, hve2⟩ : ∃ a l c, v2 = .slice a l c := (by obtain ⟨a, c, e, _⟩ := hown.form; exact ⟨a, _, c, e⟩)
      subst hve2
      refine hK.out _ _ (G4.out.at_ 5) (fun _ => ?_)
      clear hK KK hown hgr
      simp only [List.getElem_toArray, List.getElem_cons_succ, List.getElem_cons_zero, Act.put, List.setIfInBounds_toArray, List.set_cons_zero, List.set_cons_succ]
      refine wpAnyH_take (i := 11) (v := .slice va2 vl2 vc2) rfl (by kernel_rfl) (by kernel_rfl) (by kernel_rfl) (fun _ _ _ h => h) (Or.inl ⟨by rfl, fun u hu => by (go_simp)⟩) (G4.out.at_ 5) ?_
      simp only [List.getElem_toArray, List.getElem_cons_succ, List.getElem_cons_zero, Act.put, List.setIfInBounds_toArray, List.set_cons_zero, List.set_cons_succ]
      refine wpAnyH_take (i := 12) (v := .bool (decide ((N : Int) < cap))) rfl (by kernel_rfl) (by kernel_rfl) (by kernel_rfl) (fun _ _ _ h => h) (Or.inl ⟨by rfl, fun u hu => by (go_simp)⟩) (G4.out.at_ 5) ?_
      simp only [List.getElem_toArray, List.getElem_cons_succ, List.getElem_cons_zero, Act.put, List.setIfInBounds_toArray, List.set_cons_zero, List.set_cons_succ]
      refine wpAnyH_done (by kernel_rfl) ?_ _
      clear G4
      go_wp2
      go_ret2
      exact fine_end rfl HL.out HUB.out HLN.out B4.out OW.out
  · skip
    go_simp
    have hb := below_one W0 (.cells #[.int .i64 ov] 3)
    have V1 := Lib.hid (show Blk (W0.alloc (.cells #[.int .i64 ov] 3)) W0.heap.size 3 #[.int .i64 ov] from Blk.made W0 3 #[.int .i64 ov])
    have G1 := Lib.hid (G0.out.below hb)
    have B1 := Lib.hid (B0.out.trans (hb.mono B0.out.size))
    have IN1 := Lib.hid (IN0.out.below hb)
    refine hK.out _ _ (G1.out.at_ 5) (fun _ => ?_)
    clear hK KK hb
    simp only [List.getElem_toArray, List.getElem_cons_succ, List.getElem_cons_zero, Act.put, List.setIfInBounds_toArray, List.set_cons_zero, List.set_cons_succ]
    generalize W0.alloc (.cells #[.int .i64 ov] 3) = W1 at *
    generalize W0.heap.size = q1 at *
    refine wpAnyH_ready (rs := [0]) (by kernel_rfl) (by simp) ?_
    refine AllReadyH.cons rfl (fun KK hK => ?_) AllReadyH.nil
    go_simp
    have hb := below_one W1 (.cells #[] 3)
    have E2 := Lib.hid (show OwnI (W1.alloc (.cells #[] 3)) w.heap.size (.slice (some ⟨W1.heap.size, 0, none⟩) 0 0) [] from OwnI.lit W1 w.heap.size [] B1.out.size (by simp))
    have HQV := Lib.hid (show q1 ≠ W1.heap.size from by have := V1.out.lt; omega)
    have G2 := Lib.hid (G1.out.below hb)
    have B2 := Lib.hid (B1.out.trans (hb.mono B1.out.size))
    have IN2 := Lib.hid (IN1.out.below hb)
    have V2 := Lib.hid (V1.out.below hb)
    refine hK.out _ _ (G2.out.at_ 5) (fun _ => ?_)
    clear hK KK hb
    simp only [List.getElem_toArray, List.getElem_cons_succ, List.getElem_cons_zero, Act.put, List.setIfInBounds_toArray, List.set_cons_zero, List.set_cons_succ]
    generalize W1.alloc (.cells #[] 3) = W2 at *
    generalize W1.heap.size = q2 at *
    refine wpAnyH_ready (rs := [2]) (by kernel_rfl) (by simp) ?_
    refine AllReadyH.cons rfl (fun KK hK => ?_) AllReadyH.nil
    refine wp_appL (.tmp 12) (.tmp 13) rfl rfl E2.out rfl IN2.out HN0.out (by have := HL.out; simp; omega) B2.out.size ?_
    intro v1 W3 hown hgr
    rw [List.nil_append] at hown
    have R3 := Lib.hid hown
    have G3 := Lib.hid (grown_op G2.out E2.out hgr)
    have B3 := Lib.hid (grown_below B2.out E2.out hgr)
    have V3 := Lib.hid (V2.out.of_same (hgr.block q1 V2.out.lt (fun e => by first | exact HQV.out (Option.some.inj e).symm | exact HQV.out (Option.some.inj e))))
    obtain ⟨va, vl, vc, hve⟩ : ∃ a l c, v1 = .slice a l c := (by obtain ⟨a, c, e, _⟩ := hown.form; exact ⟨a, _, c, e⟩)
    subst hve
    refine hK.out _ _ (G3.out.at_ 5) (fun _ => ?_)
    clear hK KK hown hgr
    simp only [List.getElem_toArray, List.getElem_cons_succ, List.getElem_cons_zero, Act.put, List.setIfInBounds_toArray, List.set_cons_zero, List.set_cons_succ]
    refine wpAnyH_ready (rs := [6]) (by kernel_rfl) (by simp) ?_
    refine AllReadyH.cons rfl (fun KK hK => ?_) AllReadyH.nil
    refine wp_appIs (.tmp 14) (.tmp 17) rfl rfl R3.out (ns := [ov]) rfl rfl (ints_at1 V3.out) (by have := HL.out; have := HLN.out; omega) B3.out.size ?_
    intro v2 W4 hown hgr
    have G4 := Lib.hid (grown_op G3.out R3.out hgr)
    have B4 := Lib.hid (grown_below B3.out R3.out hgr)
    have OW := Lib.hid hown
    obtain ⟨va2, vl2, vc2, hve2⟩ : ∃ a l c, v2 = .slice a l c := (by obtain ⟨a, c, e, _⟩ := hown.form; exact ⟨a, _, c, e⟩)
    subst hve2
    refine hK.out _ _ (G4.out.at_ 5) (fun _ => ?_)
    clear hK KK hown hgr
    simp only [List.getElem_toArray, List.getElem_cons_succ, List.getElem_cons_zero, Act.put, List.setIfInBounds_toArray, List.set_cons_zero, List.set_cons_succ]
    refine wpAnyH_take (i := 11) (v := .slice va2 vl2 vc2) rfl (by kernel_rfl) (by kernel_rfl) (by kernel_rfl) (fun _ _ _ h => h) (Or.inl ⟨by rfl, fun u hu => by (go_simp)⟩) (G4.out.at_ 5) ?_
    simp only [List.getElem_toArray, List.getElem_cons_succ, List.getElem_cons_zero, Act.put, List.setIfInBounds_toArray, List.set_cons_zero, List.set_cons_succ]
    refine wpAnyH_take (i := 12) (v := .bool (decide ((N : Int) < cap))) rfl (by kernel_rfl) (by kernel_rfl) (by kernel_rfl) (fun _ _ _ h => h) (Or.inl ⟨by rfl, fun u hu => by (go_simp)⟩) (G4.out.at_ 5) ?_
    simp only [List.getElem_toArray, List.getElem_cons_succ, List.getElem_cons_zero, Act.put, List.setIfInBounds_toArray, List.set_cons_zero, List.set_cons_succ]
    refine wpAnyH_done (by kernel_rfl) ?_ _
    clear G4
    go_wp2
    go_ret2
    exact fine_end rfl HL.out HUB.out HLN.out B4.out OW.out
theorem rapply_any {w : World} {o : OpR} {l : List Int} {v : Value} {ub : Nat} {cap : Int} (h : InV w ub v l) (hl : l.length ≤ 999) (hub : ub < w.heap.size) :
    Calls Tryz.prog 104 #[.agg (opC o), v, .int .i64 cap] w (RapD cap o l ub w) := by
  obtain ⟨a, c, rfl, hc, hi, hll, hu, hn⟩ := h
  by_cases h0 : o.c = 0
  · exact rapply_fine hi hc hl hub hn h0
  · exact rapply_rest hi hc hll hu hn h0
end Go.Proofs.YtjehiekmlbeaeaaGreat
