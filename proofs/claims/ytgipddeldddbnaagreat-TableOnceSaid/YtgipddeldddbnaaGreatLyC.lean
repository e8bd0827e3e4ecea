/-
  Package layout: Queue. (Written by wip/gen_lyc.py.)
-/
import Derived.Test.YtgipddeldddbnaaGreatMgAJ
import Derived.Test.YtgipddeldddbnaaGreatSeq
import Derived.Deep.RegionHeld
namespace Go.Proofs.YtgipddeldddbnaaGreat
open Go Go.RowKit
set_option linter.unusedSimpArgs false

structure QueS (w : World) (c : Cfg) (u : World) : Prop where
  l : Blk u w.heap.size 34 (lcells c)
  r : Blk u (w.heap.size + 1) 161 (qcells 0 0 0 0)
  b : Below w.heap.size w u
theorem QueS.below {w : World} {c : Cfg} {u u' : World} (h : QueS w c u) (b : Below u.heap.size u u') : QueS w c u' := ⟨h.l.below b, h.r.below b, h.b.trans (b.mono h.b.size)⟩
theorem QueS.drew {w : World} {c : Cfg} {u : World} (h : QueS w c u) : QueS w c u.drew := h.below (below_drew (Below.refl _ _))
theorem QueS.first (w : World) (c : Cfg) : QueS w c ((w.alloc (lbox c)).alloc (.cells (qcells 0 0 0 0) 161)) := by
  have hw1 : (w.alloc (lbox c)).heap.size = w.heap.size + 1 := by simp
  have hR := Blk.made (w.alloc (lbox c)) 161 (qcells 0 0 0 0)
  rw [hw1] at hR
  exact ⟨(Blk.made w 34 (lcells c)).alloc _, hR, (below_one w (lbox c)).alloc (by simp) _⟩
/-- The end: the result is stored. -/
theorem QueS.done {w u : World} {c : Cfg} (h : QueS w c u) (a b d e : Value) : Blk ((((u.setCell ⟨w.heap.size + 1, 0, none⟩ a).setCell ⟨w.heap.size + 1, 1, none⟩ b).setCell ⟨w.heap.size + 1, 2, none⟩ d).setCell ⟨w.heap.size + 1, 3, none⟩ e) (w.heap.size + 1) 161 #[a, b, d, e] ∧ Below w.heap.size w ((((u.setCell ⟨w.heap.size + 1, 0, none⟩ a).setCell ⟨w.heap.size + 1, 1, none⟩ b).setCell ⟨w.heap.size + 1, 2, none⟩ d).setCell ⟨w.heap.size + 1, 3, none⟩ e) :=
  ⟨h.r.put4 a b d e, (((h.b.setCell (by simp) _).setCell (by simp) _).setCell (by simp) _).setCell (by simp) _⟩

section
variable {w : World} {c : Cfg}
set_option maxHeartbeats 2000000 in
theorem lqueue_noa (hin : CfgIn c) (q l : Int) (hq : ¬ (0 ≤ q ∧ q < c.wo)) : Calls Tryz.prog 106 #[lv c, .int .i64 q, .int .i64 l] w (GivesQ (rQueue c q l) w) := by
  have hno : ¬ qIn c q l := fun h => hq ⟨h.1, h.2.1⟩
  unfold rQueue
  rw [if_neg hno]
  have HA := Lib.hid (show decide (0 ≤ q ∧ q < 4 + c.he + c.cl + c.wo - (4 + c.he + c.cl)) = false from decide_eq_false (fun h => hq ⟨h.1, by omega⟩))
  clear hno hq
  have h1 := hin.he
  have h2 := hin.cl
  have h3 := hin.wo
  have H0 := Lib.hid (QueS.first w c)
  go_enter Tryz.func106, Tryz.ntmps106
  go_upto_region 1 with fail
  generalize (w.alloc (lbox c)).alloc (.cells (qcells 0 0 0 0) 161) = W at *
  obtain ⟨e0, e1, e2, e3, e4, e5, e6, e7, e8⟩ := (⟨H0.out.l.at_ 0, H0.out.l.at_ 1, H0.out.l.at_ 2, H0.out.l.at_ 3, H0.out.l.at_ 4, H0.out.l.at_ 5, H0.out.l.at_ 6, H0.out.l.at_ 7, H0.out.l.at_ 8⟩ : _ ∧ _ ∧ _ ∧ _ ∧ _ ∧ _ ∧ _ ∧ _ ∧ _)
  simp only [List.getElem?_toArray, List.getElem?_cons_zero, List.getElem?_cons_succ] at e0 e1 e2 e3 e4 e5 e6 e7 e8
  have f0 := H0.out.r.free 0
  have f1 := H0.out.r.free 1
  have f2 := H0.out.r.free 2
  have f3 := H0.out.r.free 3
  have r0 := H0.out.r.at_ 0
  have r1 := H0.out.r.at_ 1
  have r2 := H0.out.r.at_ 2
  have r3 := H0.out.r.at_ 3
  go_wp2_with fail
  (with_reducible refine (below_any _ _ _).mono ?_)
  rintro e w1 ⟨rfl, rfl⟩
  rw [HA.out]
  go_wp2
  obtain ⟨hD, hB⟩ := H0.out.done (.int .i64 (-1)) (.int .i64 (-1)) (.int .i64 (-1)) (.int .i64 (0))
  refine bodyPost_ret (results_cell_row (P := Tryz.prog) Tryz.results106 _ _ (w.heap.size + 1) 161 _ (0, 0) _ rfl hD Tryz.underlying161 rfl (by kernel_rfl)) rfl ?_
  exact ⟨rfl, hB⟩
set_option maxHeartbeats 2000000 in
theorem lqueue_nob (hin : CfgIn c) (q l : Int) (hq : 0 ≤ q ∧ q < c.wo) (hl : ¬ (0 ≤ l ∧ l < c.le)) : Calls Tryz.prog 106 #[lv c, .int .i64 q, .int .i64 l] w (GivesQ (rQueue c q l) w) := by
  have hno : ¬ qIn c q l := fun h => hl h.2.2
  unfold rQueue
  rw [if_neg hno]
  have HA := Lib.hid (show decide (0 ≤ q ∧ q < 4 + c.he + c.cl + c.wo - (4 + c.he + c.cl)) = true from decide_eq_true ⟨hq.1, by omega⟩)
  have HL := Lib.hid (show decide (0 ≤ l ∧ l < c.le) = false from decide_eq_false hl)
  clear hno hq hl
  have h1 := hin.he
  have h2 := hin.cl
  have h3 := hin.wo
  have H0 := Lib.hid (QueS.first w c)
  go_enter Tryz.func106, Tryz.ntmps106
  go_upto_region 1 with fail
  generalize (w.alloc (lbox c)).alloc (.cells (qcells 0 0 0 0) 161) = W at *
  obtain ⟨e0, e1, e2, e3, e4, e5, e6, e7, e8⟩ := (⟨H0.out.l.at_ 0, H0.out.l.at_ 1, H0.out.l.at_ 2, H0.out.l.at_ 3, H0.out.l.at_ 4, H0.out.l.at_ 5, H0.out.l.at_ 6, H0.out.l.at_ 7, H0.out.l.at_ 8⟩ : _ ∧ _ ∧ _ ∧ _ ∧ _ ∧ _ ∧ _ ∧ _ ∧ _)
  simp only [List.getElem?_toArray, List.getElem?_cons_zero, List.getElem?_cons_succ] at e0 e1 e2 e3 e4 e5 e6 e7 e8
  have f0 := H0.out.r.free 0
  have f1 := H0.out.r.free 1
  have f2 := H0.out.r.free 2
  have f3 := H0.out.r.free 3
  have r0 := H0.out.r.at_ 0
  have r1 := H0.out.r.at_ 1
  have r2 := H0.out.r.at_ 2
  have r3 := H0.out.r.at_ 3
  go_wp2_with fail
  (with_reducible refine (below_any _ _ _).mono ?_)
  rintro e w1 ⟨rfl, rfl⟩
  rw [HA.out]
  go_wp2_with fail
  (with_reducible refine (below_any _ _ _).mono ?_)
  rintro e w1 ⟨rfl, rfl⟩
  rw [HL.out]
  go_wp2
  obtain ⟨hD, hB⟩ := H0.out.done (.int .i64 (-1)) (.int .i64 (-1)) (.int .i64 (-1)) (.int .i64 (0))
  refine bodyPost_ret (results_cell_row (P := Tryz.prog) Tryz.results106 _ _ (w.heap.size + 1) 161 _ (0, 0) _ rfl hD Tryz.underlying161 rfl (by kernel_rfl)) rfl ?_
  exact ⟨rfl, hB⟩
set_option maxHeartbeats 2000000 in
theorem lqueue_yes (hin : CfgIn c) (q l : Int) (hq : qIn c q l) : Calls Tryz.prog 106 #[lv c, .int .i64 q, .int .i64 l] w (GivesQ (rQueue c q l) w) := by
  unfold rQueue
  rw [if_pos hq]
  have HA := Lib.hid (show decide (0 ≤ q ∧ q < 4 + c.he + c.cl + c.wo - (4 + c.he + c.cl)) = true from decide_eq_true ⟨hq.1, by have := hq.2.1; omega⟩)
  have HL := Lib.hid (show decide (0 ≤ l ∧ l < c.le) = true from decide_eq_true hq.2.2)
  have hd := hin.deques
  have ha := hin.at_ hq
  have hal := hin.all
  have hde := hin.de
  obtain ⟨P0, hP0⟩ : ∃ p, q * c.le = p := ⟨_, rfl⟩
  obtain ⟨P1, hP1⟩ : ∃ p, (P0 + l) * (2 + c.de) = p := ⟨_, rfl⟩
  have hAt : rAt c q l = rDeques c + P1 := by unfold rAt; rw [hP0, hP1]
  rw [hAt]
  rw [hP0, hP1] at ha
  obtain ⟨q0, q1, q2, q3⟩ := hq
  have hle := hin.le
  have hdb : 0 ≤ rDeques c + P1 ∧ rDeques c + P1 ≤ 68000 := by omega
  have S0 := Lib.hid (show IntKind.i64.wrap (q * c.le) = P0 by rw [hP0]; exact IntWalk.i64_in _ (by omega))
  have S1 := Lib.hid (show IntKind.i64.wrap (P0 + l) = P0 + l from IntWalk.i64_in _ (by omega))
  have S3 := Lib.hid (show IntKind.i64.wrap ((P0 + l) * (2 + c.de)) = P1 by rw [hP1]; exact IntWalk.i64_in _ (by omega))
  have S4 := Lib.hid (show IntKind.i64.wrap (rDeques c + P1) = rDeques c + P1 from IntWalk.i64_in _ (by omega))
  have HDE := Lib.hid hde
  have HDB := Lib.hid hdb
  clear hP0 hP1 hAt ha hal hd hdb q0 q1 q2 q3 hle
  have h1 := hin.he
  have h2 := hin.cl
  have h3 := hin.wo
  have H0 := Lib.hid (QueS.first w c)
  go_enter Tryz.func106, Tryz.ntmps106
  go_upto_region 1 with fail
  generalize (w.alloc (lbox c)).alloc (.cells (qcells 0 0 0 0) 161) = W at *
  obtain ⟨e0, e1, e2, e3, e4, e5, e6, e7, e8⟩ := (⟨H0.out.l.at_ 0, H0.out.l.at_ 1, H0.out.l.at_ 2, H0.out.l.at_ 3, H0.out.l.at_ 4, H0.out.l.at_ 5, H0.out.l.at_ 6, H0.out.l.at_ 7, H0.out.l.at_ 8⟩ : _ ∧ _ ∧ _ ∧ _ ∧ _ ∧ _ ∧ _ ∧ _ ∧ _)
  simp only [List.getElem?_toArray, List.getElem?_cons_zero, List.getElem?_cons_succ] at e0 e1 e2 e3 e4 e5 e6 e7 e8
  have f0 := H0.out.r.free 0
  have f1 := H0.out.r.free 1
  have f2 := H0.out.r.free 2
  have f3 := H0.out.r.free 3
  have r0 := H0.out.r.at_ 0
  have r1 := H0.out.r.at_ 1
  have r2 := H0.out.r.at_ 2
  have r3 := H0.out.r.at_ 3
  go_wp2_with fail
  (with_reducible refine (below_any _ _ _).mono ?_)
  rintro e w1 ⟨rfl, rfl⟩
  rw [HA.out]
  go_wp2_with fail
  (with_reducible refine (below_any _ _ _).mono ?_)
  rintro e w1 ⟨rfl, rfl⟩
  rw [HL.out]
  clear e0 e1 e2 e3 e4 e5 e6 e7 e8 f0 f1 f2 f3 r0 r1 r2 r3
  go_wp2_with fail
  have s0 := S0.out
  have s1 := S1.out
  have s3 := S3.out
  have s4 := S4.out
  refine wp_region_seq (S := QueS w c) [0, 1, 2, 3, 4, 5, 6, 7, 8, 9, 10, 11, 12] (by kernel_rfl) (by kernel_rfl) (by kernel_rfl) (by kernel_rfl) (by kernel_rfl) H0.out.drew ?_
  refine SeqS.valD (v := .pointer (some ⟨w.heap.size, 4, none⟩)) 24 rfl (by kernel_rfl) (Or.inl ⟨by kernel_rfl, fun u hu => by (go_simp)⟩) ?_
  simp only [List.setIfInBounds_toArray, List.set_cons_zero, List.set_cons_succ]
  refine SeqS.valD (v := .int .i64 (rDeques c)) 25 rfl (by kernel_rfl) (Or.inl ⟨by kernel_rfl, fun u hu => by (have k := hu.l.at_ 4; go_simp)⟩) ?_
  simp only [List.setIfInBounds_toArray, List.set_cons_zero, List.set_cons_succ]
  refine SeqS.valD (v := .int .i64 q) 26 rfl (by kernel_rfl) (Or.inl ⟨by kernel_rfl, fun u hu => by (go_simp)⟩) ?_
  simp only [List.setIfInBounds_toArray, List.set_cons_zero, List.set_cons_succ]
  refine SeqS.valD (v := .pointer (some ⟨w.heap.size, 7, none⟩)) 27 rfl (by kernel_rfl) (Or.inl ⟨by kernel_rfl, fun u hu => by (go_simp)⟩) ?_
  simp only [List.setIfInBounds_toArray, List.set_cons_zero, List.set_cons_succ]
  refine SeqS.valD (v := .int .i64 c.le) 28 rfl (by kernel_rfl) (Or.inl ⟨by kernel_rfl, fun u hu => by (have k := hu.l.at_ 7; go_simp)⟩) ?_
  simp only [List.setIfInBounds_toArray, List.set_cons_zero, List.set_cons_succ]
  refine SeqS.valD (v := .int .i64 P0) 29 rfl (by kernel_rfl) (Or.inl ⟨by kernel_rfl, fun u hu => by (go_simp)⟩) ?_
  simp only [List.setIfInBounds_toArray, List.set_cons_zero, List.set_cons_succ]
  refine SeqS.valD (v := .int .i64 l) 30 rfl (by kernel_rfl) (Or.inl ⟨by kernel_rfl, fun u hu => by (go_simp)⟩) ?_
  simp only [List.setIfInBounds_toArray, List.set_cons_zero, List.set_cons_succ]
  refine SeqS.valD (v := .int .i64 (P0 + l)) 31 rfl (by kernel_rfl) (Or.inl ⟨by kernel_rfl, fun u hu => by (go_simp)⟩) ?_
  simp only [List.setIfInBounds_toArray, List.set_cons_zero, List.set_cons_succ]
  refine SeqS.valD (v := .agg (lcells c)) 32 rfl (by kernel_rfl) (yields_row (by kernel_rfl) _ _ rfl w.heap.size (by kernel_rfl) 34 _ (fun u hu => hu.l) _ Tryz.underlying34 rfl (by kernel_rfl)) ?_
  simp only [List.setIfInBounds_toArray, List.set_cons_zero, List.set_cons_succ]
  refine SeqS.callD 33 (.int .i64 (2 + c.de)) rfl (by kernel_rfl) (by kernel_rfl) (fun u hu K hK => ?_) ?_
  · go_simp
    go_at_call 22
    (with_reducible refine (lqueuecells_any _ _ _ _ _ _ _ _ _ HDE.out).mono ?_)
    rintro e u1 ⟨rfl, b⟩
    exact hK.out _ _ (by kernel_rfl) (hu.below b)
  simp only [List.setIfInBounds_toArray, List.set_cons_zero, List.set_cons_succ]
  refine SeqS.valD (v := .int .i64 P1) 34 rfl (by kernel_rfl) (Or.inl ⟨by kernel_rfl, fun u hu => by (go_simp)⟩) ?_
  simp only [List.setIfInBounds_toArray, List.set_cons_zero, List.set_cons_succ]
  refine SeqS.valD (v := .int .i64 (rDeques c + P1)) 35 rfl (by kernel_rfl) (Or.inl ⟨by kernel_rfl, fun u hu => by (go_simp)⟩) ?_
  simp only [List.setIfInBounds_toArray, List.set_cons_zero, List.set_cons_succ]
  refine SeqS.valD (v := .int .i64 (rDeques c + P1)) 7 rfl (by kernel_rfl) (Or.inl ⟨by kernel_rfl, fun u hu => by (go_simp)⟩) ?_
  simp only [List.setIfInBounds_toArray, List.set_cons_zero, List.set_cons_succ]
  refine SeqS.done ?_
  intro W2 hW
  have H2 := Lib.hid hW
  clear hW H0 s0 s1 s3 s4
  have hdb := HDB.out
  have hde := HDE.out
  have e8 := H2.out.l.at_ 8
  have f0 := H2.out.r.free 0
  have f1 := H2.out.r.free 1
  have f2 := H2.out.r.free 2
  have f3 := H2.out.r.free 3
  have r0 := H2.out.r.at_ 0
  have r1 := H2.out.r.at_ 1
  have r2 := H2.out.r.at_ 2
  have r3 := H2.out.r.at_ 3
  go_wp2
  obtain ⟨hD, hB⟩ := H2.out.done (.int .i64 (rDeques c + P1)) (.int .i64 (rDeques c + P1 + 1)) (.int .i64 (rDeques c + P1 + 2)) (.int .i64 (c.de))
  refine bodyPost_ret (results_cell_row (P := Tryz.prog) Tryz.results106 _ _ (w.heap.size + 1) 161 _ (0, 0) _ rfl hD Tryz.underlying161 rfl (by kernel_rfl)) rfl ?_
  exact ⟨rfl, hB⟩
theorem lqueue_any (hin : CfgIn c) (q l : Int) : Calls Tryz.prog 106 #[lv c, .int .i64 q, .int .i64 l] w (GivesQ (rQueue c q l) w) := by
  by_cases hq : 0 ≤ q ∧ q < c.wo
  · by_cases hl : 0 ≤ l ∧ l < c.le
    · exact lqueue_yes hin q l ⟨hq.1, hq.2, hl.1, hl.2⟩
    · exact lqueue_nob hin q l hq hl
  · exact lqueue_noa hin q l hq
end
end Go.Proofs.YtgipddeldddbnaaGreat
