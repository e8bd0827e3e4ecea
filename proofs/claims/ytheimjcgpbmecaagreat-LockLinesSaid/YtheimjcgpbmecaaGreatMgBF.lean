/-
  Package layout: Queue. (Written by wip/gen_lyc.py.)
  A block that begins with parts.Lines: the methods that it embeds. (Written by wip/gen_bm.py.)
  Package levels: the deque and the bitmap of a machine, by the layout of the environment.
  Package clock: Tick.
  Package clock: Set.
  workstealmatch.Envs: what its later loops keep.
-/
import Derived.Test.YtheimjcgpbmecaaGreatMgBE
import Derived.Test.YtheimjcgpbmecaaGreatSeq
import Derived.Deep.RegionHeld
import Derived.Test.YtheimjcgpbmecaaGreatMgAS
import Derived.Test.YtheimjcgpbmecaaGreatMgAD
import Derived.Test.YtheimjcgpbmecaaGreatMgAA
import Derived.Deep.QuietTactic
import Derived.BigQuiet
import Derived.RegionTactic
import Derived.Test.YtheimjcgpbmecaaGreatMgAW
import Derived.Deep.RegionHeld3
import Derived.Test.YtheimjcgpbmecaaGreatMgAV
import Derived.Test.YtheimjcgpbmecaaGreatMgAO
import Derived.Test.YtheimjcgpbmecaaGreatMgAQ
namespace Go.Proofs.YtheimjcgpbmecaaGreat
open Go Go.RowKit
set_option linter.unusedSimpArgs false

structure QueS (w : World) (c : Cfg) (u : World) : Prop where
  l : Blk u w.heap.size 41 (lcells c)
  r : Blk u (w.heap.size + 1) 77 (qcells 0 0 0 0)
  b : Below w.heap.size w u
theorem QueS.below {w : World} {c : Cfg} {u u' : World} (h : QueS w c u) (b : Below u.heap.size u u') : QueS w c u' := ⟨h.l.below b, h.r.below b, h.b.trans (b.mono h.b.size)⟩
theorem QueS.drew {w : World} {c : Cfg} {u : World} (h : QueS w c u) : QueS w c u.drew := h.below (below_drew (Below.refl _ _))
theorem QueS.first (w : World) (c : Cfg) : QueS w c ((w.alloc (lbox c)).alloc (.cells (qcells 0 0 0 0) 77)) := by
  have hw1 : (w.alloc (lbox c)).heap.size = w.heap.size + 1 := by simp
  have hR := Blk.made (w.alloc (lbox c)) 77 (qcells 0 0 0 0)
  rw [hw1] at hR
  exact ⟨(Blk.made w 41 (lcells c)).alloc _, hR, (below_one w (lbox c)).alloc (by simp) _⟩
/-- The end: the result is stored. -/
theorem QueS.done {w u : World} {c : Cfg} (h : QueS w c u) (a b d e : Value) : Blk ((((u.setCell ⟨w.heap.size + 1, 0, none⟩ a).setCell ⟨w.heap.size + 1, 1, none⟩ b).setCell ⟨w.heap.size + 1, 2, none⟩ d).setCell ⟨w.heap.size + 1, 3, none⟩ e) (w.heap.size + 1) 77 #[a, b, d, e] ∧ Below w.heap.size w ((((u.setCell ⟨w.heap.size + 1, 0, none⟩ a).setCell ⟨w.heap.size + 1, 1, none⟩ b).setCell ⟨w.heap.size + 1, 2, none⟩ d).setCell ⟨w.heap.size + 1, 3, none⟩ e) :=
  ⟨h.r.put4 a b d e, (((h.b.setCell (by simp) _).setCell (by simp) _).setCell (by simp) _).setCell (by simp) _⟩

section
variable {w : World} {c : Cfg}
set_option maxHeartbeats 2000000 in
theorem lqueue_noa (hin : CfgIn c) (q l : Int) (hq : ¬ (0 ≤ q ∧ q < c.wo)) : Calls Tryz.prog 205 #[lv c, .int .i64 q, .int .i64 l] w (GivesQ (rQueue c q l) w) := by
  have hno : ¬ qIn c q l := fun h => hq ⟨h.1, h.2.1⟩
  unfold rQueue
  rw [if_neg hno]
  have HA := Lib.hid (show decide (0 ≤ q ∧ q < 4 + c.he + c.cl + c.wo - (4 + c.he + c.cl)) = false from decide_eq_false (fun h => hq ⟨h.1, by omega⟩))
  clear hno hq
  have h1 := hin.he
  have h2 := hin.cl
  have h3 := hin.wo
  have H0 := Lib.hid (QueS.first w c)
  go_enter Tryz.func205, Tryz.ntmps205
  go_upto_region 1 with fail
  generalize (w.alloc (lbox c)).alloc (.cells (qcells 0 0 0 0) 77) = W at *
  obtain ⟨e0, e1, e2, e3, e4, e5, e6, e7, e8⟩ := (⟨H0.out.l.at_ 0, H0.out.l.at_ 1, H0.out.l.at_ 2, H0.out.l.at_ 3, H0.out.l.at_ 4, H0.out.l.at_ 5, H0.out.l.at_ 6, H0.out.l.at_ 7, H0.out.l.at_ 8⟩ : _ ∧ _ ∧ _ ∧ _ ∧ _ ∧ _ ∧ _ ∧ _ ∧ _)
  simp only [List.getElem?_toArray, List.getElem?_cons_zero, List.getElem?_cons_succ] at e0 e1 e2 e3 e4 e5 e6 e7 e8
  have f0 := H0.out.r.free 0
  have f1 := H0.out.r.free 1
  have f2 := H0.out.r.free 2
  have f3 := H0.out.r.free 3
  have r0 := H0.out.r.at_ 0
  have r1 := H0.out.r.at_ 1
  have r2 := H0.out.r.at_ 2
  have r3 := H0.out.r.at_ 3
  go_wp2_with fail
  (with_reducible refine (below_any _ _ _).mono ?_)
  rintro e w1 ⟨rfl, rfl⟩
  rw [HA.out]
  go_wp2
  obtain ⟨hD, hB⟩ := H0.out.done (.int .i64 (-1)) (.int .i64 (-1)) (.int .i64 (-1)) (.int .i64 (0))
  refine bodyPost_ret (results_cell_row (P := Tryz.prog) Tryz.results205 _ _ (w.heap.size + 1) 77 _ (0, 0) _ rfl hD Tryz.underlying77 rfl (by kernel_rfl)) rfl ?_
  exact ⟨rfl, hB⟩
set_option maxHeartbeats 2000000 in
theorem lqueue_nob (hin : CfgIn c) (q l : Int) (hq : 0 ≤ q ∧ q < c.wo) (hl : ¬ (0 ≤ l ∧ l < c.le)) : Calls Tryz.prog 205 #[lv c, .int .i64 q, .int .i64 l] w (GivesQ (rQueue c q l) w) := by
  have hno : ¬ qIn c q l := fun h => hl h.2.2
  unfold rQueue
  rw [if_neg hno]
  have HA := Lib.hid (show decide (0 ≤ q ∧ q < 4 + c.he + c.cl + c.wo - (4 + c.he + c.cl)) = true from decide_eq_true ⟨hq.1, by omega⟩)
  have HL := Lib.hid (show decide (0 ≤ l ∧ l < c.le) = false from decide_eq_false hl)
  clear hno hq hl
  have h1 := hin.he
  have h2 := hin.cl
  have h3 := hin.wo
  have H0 := Lib.hid (QueS.first w c)
  go_enter Tryz.func205, Tryz.ntmps205
  go_upto_region 1 with fail
  generalize (w.alloc (lbox c)).alloc (.cells (qcells 0 0 0 0) 77) = W at *
  obtain ⟨e0, e1, e2, e3, e4, e5, e6, e7, e8⟩ := (⟨H0.out.l.at_ 0, H0.out.l.at_ 1, H0.out.l.at_ 2, H0.out.l.at_ 3, H0.out.l.at_ 4, H0.out.l.at_ 5, H0.out.l.at_ 6, H0.out.l.at_ 7, H0.out.l.at_ 8⟩ : _ ∧ _ ∧ _ ∧ _ ∧ _ ∧ _ ∧ _ ∧ _ ∧ _)
  simp only [List.getElem?_toArray, List.getElem?_cons_zero, List.getElem?_cons_succ] at e0 e1 e2 e3 e4 e5 e6 e7 e8
  have f0 := H0.out.r.free 0
  have f1 := H0.out.r.free 1
  have f2 := H0.out.r.free 2
  have f3 := H0.out.r.free 3
  have r0 := H0.out.r.at_ 0
  have r1 := H0.out.r.at_ 1
  have r2 := H0.out.r.at_ 2
  have r3 := H0.out.r.at_ 3
  go_wp2_with fail
  (with_reducible refine (below_any _ _ _).mono ?_)
  rintro e w1 ⟨rfl, rfl⟩
  rw [HA.out]
  go_wp2_with fail
  (with_reducible refine (below_any _ _ _).mono ?_)
  rintro e w1 ⟨rfl, rfl⟩
  rw [HL.out]
  go_wp2
  obtain ⟨hD, hB⟩ := H0.out.done (.int .i64 (-1)) (.int .i64 (-1)) (.int .i64 (-1)) (.int .i64 (0))
  refine bodyPost_ret (results_cell_row (P := Tryz.prog) Tryz.results205 _ _ (w.heap.size + 1) 77 _ (0, 0) _ rfl hD Tryz.underlying77 rfl (by kernel_rfl)) rfl ?_
  exact ⟨rfl, hB⟩
set_option maxHeartbeats 2000000 in
theorem lqueue_yes (hin : CfgIn c) (q l : Int) (hq : qIn c q l) : Calls Tryz.prog 205 #[lv c, .int .i64 q, .int .i64 l] w (GivesQ (rQueue c q l) w) := by
  unfold rQueue
  rw [if_pos hq]
  have HA := Lib.hid (show decide (0 ≤ q ∧ q < 4 + c.he + c.cl + c.wo - (4 + c.he + c.cl)) = true from decide_eq_true ⟨hq.1, by have := hq.2.1; omega⟩)
  have HL := Lib.hid (show decide (0 ≤ l ∧ l < c.le) = true from decide_eq_true hq.2.2)
  have hd := hin.deques
  have ha := hin.at_ hq
  have hal := hin.all
  have hde := hin.de
  obtain ⟨P0, hP0⟩ : ∃ p, q * c.le = p := ⟨_, rfl⟩
  obtain ⟨P1, hP1⟩ : ∃ p, (P0 + l) * (2 + c.de) = p := ⟨_, rfl⟩
  have hAt : rAt c q l = rDeques c + P1 := by unfold rAt; rw [hP0, hP1]
  rw [hAt]
  rw [hP0, hP1] at ha
  obtain ⟨q0, q1, q2, q3⟩ := hq
  have hle := hin.le
  have hdb : 0 ≤ rDeques c + P1 ∧ rDeques c + P1 ≤ 68000 := by omega
  have S0 := Lib.hid (show IntKind.i64.wrap (q * c.le) = P0 by rw [hP0]; exact IntWalk.i64_in _ (by omega))
  have S1 := Lib.hid (show IntKind.i64.wrap (P0 + l) = P0 + l from IntWalk.i64_in _ (by omega))
  have S3 := Lib.hid (show IntKind.i64.wrap ((P0 + l) * (2 + c.de)) = P1 by rw [hP1]; exact IntWalk.i64_in _ (by omega))
  have S4 := Lib.hid (show IntKind.i64.wrap (rDeques c + P1) = rDeques c + P1 from IntWalk.i64_in _ (by omega))
  have HDE := Lib.hid hde
  have HDB := Lib.hid hdb
  clear hP0 hP1 hAt ha hal hd hdb q0 q1 q2 q3 hle
  have h1 := hin.he
  have h2 := hin.cl
  have h3 := hin.wo
  have H0 := Lib.hid (QueS.first w c)
  go_enter Tryz.func205, Tryz.ntmps205
  go_upto_region 1 with fail
  generalize (w.alloc (lbox c)).alloc (.cells (qcells 0 0 0 0) 77) = W at *
  obtain ⟨e0, e1, e2, e3, e4, e5, e6, e7, e8⟩ := (⟨H0.out.l.at_ 0, H0.out.l.at_ 1, H0.out.l.at_ 2, H0.out.l.at_ 3, H0.out.l.at_ 4, H0.out.l.at_ 5, H0.out.l.at_ 6, H0.out.l.at_ 7, H0.out.l.at_ 8⟩ : _ ∧ _ ∧ _ ∧ _ ∧ _ ∧ _ ∧ _ ∧ _ ∧ _)
  simp only [List.getElem?_toArray, List.getElem?_cons_zero, List.getElem?_cons_succ] at e0 e1 e2 e3 e4 e5 e6 e7 e8
  have f0 := H0.out.r.free 0
  have f1 := H0.out.r.free 1
  have f2 := H0.out.r.free 2
  have f3 := H0.out.r.free 3
  have r0 := H0.out.r.at_ 0
  have r1 := H0.out.r.at_ 1
  have r2 := H0.out.r.at_ 2
  have r3 := H0.out.r.at_ 3
  go_wp2_with fail
  (with_reducible refine (below_any _ _ _).mono ?_)
  rintro e w1 ⟨rfl, rfl⟩
  rw [HA.out]
  go_wp2_with fail
  (with_reducible refine (below_any _ _ _).mono ?_)
  rintro e w1 ⟨rfl, rfl⟩
  rw [HL.out]
  clear e0 e1 e2 e3 e4 e5 e6 e7 e8 f0 f1 f2 f3 r0 r1 r2 r3
  go_wp2_with fail
  have s0 := S0.out
  have s1 := S1.out
  have s3 := S3.out
  have s4 := S4.out
  refine wp_region_seq (S := QueS w c) [0, 1, 2, 3, 4, 5, 6, 7, 8, 9, 10, 11, 12] (by kernel_rfl) (by kernel_rfl) (by kernel_rfl) (by kernel_rfl) (by kernel_rfl) H0.out.drew ?_
  refine SeqS.valD (v := .pointer (some ⟨w.heap.size, 4, none⟩)) 24 rfl (by kernel_rfl) (Or.inl ⟨by kernel_rfl, fun u hu => by (go_simp)⟩) ?_
  simp only [List.setIfInBounds_toArray, List.set_cons_zero, List.set_cons_succ]
  refine SeqS.valD (v := .int .i64 (rDeques c)) 25 rfl (by kernel_rfl) (Or.inl ⟨by kernel_rfl, fun u hu => by (have k := hu.l.at_ 4; go_simp)⟩) ?_
  simp only [List.setIfInBounds_toArray, List.set_cons_zero, List.set_cons_succ]
  refine SeqS.valD (v := .int .i64 q) 26 rfl (by kernel_rfl) (Or.inl ⟨by kernel_rfl, fun u hu => by (go_simp)⟩) ?_
  simp only [List.setIfInBounds_toArray, List.set_cons_zero, List.set_cons_succ]
  refine SeqS.valD (v := .pointer (some ⟨w.heap.size, 7, none⟩)) 27 rfl (by kernel_rfl) (Or.inl ⟨by kernel_rfl, fun u hu => by (go_simp)⟩) ?_
  simp only [List.setIfInBounds_toArray, List.set_cons_zero, List.set_cons_succ]
  refine SeqS.valD (v := .int .i64 c.le) 28 rfl (by kernel_rfl) (Or.inl ⟨by kernel_rfl, fun u hu => by (have k := hu.l.at_ 7; go_simp)⟩) ?_
  simp only [List.setIfInBounds_toArray, List.set_cons_zero, List.set_cons_succ]
  refine SeqS.valD (v := .int .i64 P0) 29 rfl (by kernel_rfl) (Or.inl ⟨by kernel_rfl, fun u hu => by (go_simp)⟩) ?_
  simp only [List.setIfInBounds_toArray, List.set_cons_zero, List.set_cons_succ]
  refine SeqS.valD (v := .int .i64 l) 30 rfl (by kernel_rfl) (Or.inl ⟨by kernel_rfl, fun u hu => by (go_simp)⟩) ?_
  simp only [List.setIfInBounds_toArray, List.set_cons_zero, List.set_cons_succ]
  refine SeqS.valD (v := .int .i64 (P0 + l)) 31 rfl (by kernel_rfl) (Or.inl ⟨by kernel_rfl, fun u hu => by (go_simp)⟩) ?_
  simp only [List.setIfInBounds_toArray, List.set_cons_zero, List.set_cons_succ]
  refine SeqS.valD (v := .agg (lcells c)) 32 rfl (by kernel_rfl) (yields_row (by kernel_rfl) _ _ rfl w.heap.size (by kernel_rfl) 41 _ (fun u hu => hu.l) _ Tryz.underlying41 rfl (by kernel_rfl)) ?_
  simp only [List.setIfInBounds_toArray, List.set_cons_zero, List.set_cons_succ]
  refine SeqS.callD 33 (.int .i64 (2 + c.de)) rfl (by kernel_rfl) (by kernel_rfl) (fun u hu K hK => ?_) ?_
  · go_simp
    go_at_call 87
    (with_reducible refine (lqueuecells_any _ _ _ _ _ _ _ _ _ HDE.out).mono ?_)
    rintro e u1 ⟨rfl, b⟩
    exact hK.out _ _ (by kernel_rfl) (hu.below b)
  simp only [List.setIfInBounds_toArray, List.set_cons_zero, List.set_cons_succ]
  refine SeqS.valD (v := .int .i64 P1) 34 rfl (by kernel_rfl) (Or.inl ⟨by kernel_rfl, fun u hu => by (go_simp)⟩) ?_
  simp only [List.setIfInBounds_toArray, List.set_cons_zero, List.set_cons_succ]
  refine SeqS.valD (v := .int .i64 (rDeques c + P1)) 35 rfl (by kernel_rfl) (Or.inl ⟨by kernel_rfl, fun u hu => by (go_simp)⟩) ?_
  simp only [List.setIfInBounds_toArray, List.set_cons_zero, List.set_cons_succ]
  refine SeqS.valD (v := .int .i64 (rDeques c + P1)) 7 rfl (by kernel_rfl) (Or.inl ⟨by kernel_rfl, fun u hu => by (go_simp)⟩) ?_
  simp only [List.setIfInBounds_toArray, List.set_cons_zero, List.set_cons_succ]
  refine SeqS.done ?_
  intro W2 hW
  have H2 := Lib.hid hW
  clear hW H0 s0 s1 s3 s4
  have hdb := HDB.out
  have hde := HDE.out
  have e8 := H2.out.l.at_ 8
  have f0 := H2.out.r.free 0
  have f1 := H2.out.r.free 1
  have f2 := H2.out.r.free 2
  have f3 := H2.out.r.free 3
  have r0 := H2.out.r.at_ 0
  have r1 := H2.out.r.at_ 1
  have r2 := H2.out.r.at_ 2
  have r3 := H2.out.r.at_ 3
  go_wp2
  obtain ⟨hD, hB⟩ := H2.out.done (.int .i64 (rDeques c + P1)) (.int .i64 (rDeques c + P1 + 1)) (.int .i64 (rDeques c + P1 + 2)) (.int .i64 (c.de))
  refine bodyPost_ret (results_cell_row (P := Tryz.prog) Tryz.results205 _ _ (w.heap.size + 1) 77 _ (0, 0) _ rfl hD Tryz.underlying77 rfl (by kernel_rfl)) rfl ?_
  exact ⟨rfl, hB⟩
theorem lqueue_any (hin : CfgIn c) (q l : Int) : Calls Tryz.prog 205 #[lv c, .int .i64 q, .int .i64 l] w (GivesQ (rQueue c q l) w) := by
  by_cases hq : 0 ≤ q ∧ q < c.wo
  · by_cases hl : 0 ≤ l ∧ l < c.le
    · exact lqueue_yes hin q l ⟨hq.1, hq.2, hl.1, hl.2⟩
    · exact lqueue_nob hin q l hq hl
  · exact lqueue_noa hin q l hq
end
end Go.Proofs.YtheimjcgpbmecaaGreat

namespace Go.Proofs.YtheimjcgpbmecaaGreat
open Go Go.RowKit Go.Shelf
set_option linter.unusedSimpArgs false

/-- The cells of lines. -/
abbrev lncells (f : Fra) (cd vl : Int) : List Value := [.int .i64 f.ln, .int .i64 cd, .int .i64 vl]
/-- Block q begins with lines, then post. -/
structure LB (w : World) (q : Nat) (ty : TypeId) (post : List Value) (f : Fra) (cd vl : Int) : Prop where
  blk : Blk w q ty (lncells f cd vl ++ post).toArray
  t1 : ty ≠ 47
  t2 : ty ≠ 121
  t3 : ty ≠ 119
  t4 : ty ≠ 50

section
variable {w w' : World} {q : Nat} {ty : TypeId} {post : List Value} {f f' : Fra} {cd vl : Int}
theorem LB.at_ (h : LB w q ty post f cd vl) (j : Nat) (hj : j < 3) : w.cell? ⟨q, j, none⟩ = (lncells f cd vl)[j]? := by
  rw [h.blk.at_, List.getElem?_toArray, List.getElem?_append_left (by simpa using hj)]
theorem LB.free (h : LB w q ty post f cd vl) (j : Nat) : w.frozen? ⟨q, j, none⟩ = false := h.blk.free j
theorem LB.put (h : LB w q ty post f cd vl) (j : Nat) (hj : j < 3) (u : Value) (f' : Fra) (cd' vl' : Int) (hf : lncells f' cd' vl' = (lncells f cd vl).set j u) : LB (w.setCell ⟨q, j, none⟩ u) q ty post f' cd' vl' := by
  refine ⟨?_, h.t1, h.t2, h.t3, h.t4⟩
  have hb := h.blk.put j u
  rw [List.setIfInBounds_toArray, List.set_append_left _ _ (by simpa using hj), ← hf] at hb
  exact hb
theorem LB.of_same (h : LB w q ty post f cd vl) (e : w'.heap[q]? = w.heap[q]?) : LB w' q ty post f cd vl := ⟨h.blk.of_same e, h.t1, h.t2, h.t3, h.t4⟩
theorem LB.fr {S : List Nat} (h : LB w q ty post f cd vl) (hf : Fr S w w') (hq : q ∉ S) : LB w' q ty post f cd vl := h.of_same (hf.block q h.blk.lt hq)
theorem LB.below (h : LB w q ty post f cd vl) (hb : Below w.heap.size w w') : LB w' q ty post f cd vl := h.of_same (hb.block q h.blk.lt)
theorem LB.drewN (h : LB w q ty post f cd vl) (n : Nat) : LB (w.drewN n) q ty post f cd vl := h.of_same rfl
theorem LB.drew (h : LB w q ty post f cd vl) : LB w.drew q ty post f cd vl := h.of_same rfl
end

section
variable {w w' : World} {p m k g cap : Nat} {s s' : St} {t d : Int} {hd : List Value} {rv ev : Value} {q : Nat} {ty : TypeId} {post : List Value} {f f' : Fra} {cd vl : Int}
theorem LB.ne (h : LB w q ty post f cd vl) (hp : PE w p m k g cap s t d hd rv ev) : q ≠ p ∧ q ≠ m ∧ q ≠ k ∧ q ≠ g := by
  obtain ⟨cur, hb, _⟩ := hp.mem.row.blk
  exact ⟨h.blk.apart hp.blk h.t1, h.blk.apart hp.mem.blk h.t2, h.blk.apart hp.clk h.t3, h.blk.apart hb h.t4⟩
theorem PE.lown (hp : PE w p m k g cap s t d hd rv ev) (h : LB w q ty post f cd vl) (hf : Fr [q] w w') : PE w' p m k g cap s t d hd rv ev := by
  obtain ⟨n1, n2, n3, n4⟩ := h.ne hp
  exact hp.fr hf (by simpa using n1.symm) (by simpa using n2.symm) (by simpa using n3.symm) (by simpa using n4.symm)
theorem LB.acc (h : LB w q ty post f cd vl) (hp : PE w p m k g cap s t d hd rv ev) (hf : Fr [m, g] w w') : LB w' q ty post f cd vl := by
  obtain ⟨n1, n2, n3, n4⟩ := h.ne hp
  exact h.fr hf (by simp [n2, n4])

/-- The line that is next. -/
theorem lline_any (h : LB w q ty post f cd vl) :
    Calls Tryz.prog 194 #[.pointer (some ⟨q, 0, none⟩)] w fun e w' => e = .returned (.int .i64 f.ln) ∧ w = w' := by
  have c0 : w.cell? ⟨q, 0, none⟩ = some (.int .i64 f.ln) := h.at_ 0 (by omega)
  clear h
  go_enter Tryz.func194, Tryz.ntmps194
  go_wp2
  go_ret
  exact ⟨rfl, rfl⟩

/-- The next line. -/
theorem lnext_any (h : LB w q ty post f cd vl) (l : Int) :
    Calls Tryz.prog 200 #[.pointer (some ⟨q, 0, none⟩), .int .i64 l] w fun e w' => e = .returned (.bool false) ∧ LB w' q ty post { f with ln := l } cd vl ∧ Fr [q] w w' := by
  have c6 : w.cell? ⟨q, 0, none⟩ = some (.int .i64 f.ln) := h.at_ 0 (by omega)
  have k6 := h.free 0
  have H := Lib.hid h
  clear h
  go_enter Tryz.func200, Tryz.ntmps200
  go_wp2
  go_ret
  exact ⟨rfl, H.out.put 0 (by omega) (.int .i64 l) { f with ln := l } cd vl rfl, (Fr.refl _ _).setCell (by simp) _⟩

/-- The end. -/
theorem lend_any (h : LB w q ty post f cd vl) (c v : Int) :
    Calls Tryz.prog 199 #[.pointer (some ⟨q, 0, none⟩), .int .i64 c, .int .i64 v] w fun e w' => e = .returned (.bool true) ∧ LB w' q ty post { f with ln := 0 } c v ∧ Fr [q] w w' := by
  have c6 : w.cell? ⟨q, 0, none⟩ = some (.int .i64 f.ln) := h.at_ 0 (by omega)
  have c7 : w.cell? ⟨q, 1, none⟩ = some (.int .i64 cd) := h.at_ 1 (by omega)
  have c8 : w.cell? ⟨q, 2, none⟩ = some (.int .i64 vl) := h.at_ 2 (by omega)
  have k6 := h.free 0
  have k7 := h.free 1
  have k8 := h.free 2
  have H := Lib.hid h
  clear h
  go_enter Tryz.func199, Tryz.ntmps199
  go_wp2
  go_ret
  exact ⟨rfl, ((H.out.put 0 (by omega) (.int .i64 0) { f with ln := 0 } cd vl rfl).put 1 (by omega) (.int .i64 c) { f with ln := 0 } c vl rfl).put 2 (by omega) (.int .i64 v) { f with ln := 0 } c v rfl,
    (((Fr.refl [q] _).setCell (by simp) _).setCell (by simp) _).setCell (by simp) _⟩

/-- The result. -/
theorem lresult_any (h : LB w q ty post f cd vl) :
    Calls Tryz.prog 192 #[.pointer (some ⟨q, 0, none⟩)] w fun e w' => e = .returned (.tuple #[.int .i64 cd, .int .i64 vl]) ∧ ∃ n, w' = w.drewN n := by
  have c7 : w.cell? ⟨q, 1, none⟩ = some (.int .i64 cd) := h.at_ 1 (by omega)
  have c8 : w.cell? ⟨q, 2, none⟩ = some (.int .i64 vl) := h.at_ 2 (by omega)
  clear h
  go_enter Tryz.func192, Tryz.ntmps192
  go_wp2_with fail
  go_quiet (fail)
  go_wp2
  go_ret2
  exact ⟨rfl, _, rfl⟩

/-- What a step of such a machine gives. -/
def LStepped (w : World) (p m k g cap : Nat) (s' : St) (t d : Int) (hd : List Value) (rv ev : Value) (q : Nat) (ty : TypeId) (post : List Value) (f' : Fra) (r : Res) (e : Ending) (w' : World) : Prop :=
  e = .returned (.bool r.dn) ∧ PE w' p m k g cap s' t d hd rv ev ∧ LB w' q ty post (if r.dn then { f' with ln := 0 } else f') r.cd r.vl ∧ Fr [m, g, q] w w'
end
end Go.Proofs.YtheimjcgpbmecaaGreat

namespace Go.Proofs.YtheimjcgpbmecaaGreat
open Go Go.RowKit Go.Shelf
set_option linter.unusedSimpArgs false

/-- The cells ahead of an environment's pointers hold the layout of c. -/
def LayHd (hd : List Value) (c : Cfg) : Prop := ∀ j, j < 9 → hd[11 + j]? = (lcells c)[j]?
section
variable {w w' : World} {p m k g cap : Nat} {s s' : St} {t d : Int} {hd : List Value} {rv ev : Value} {c : Cfg}
theorem PE.lay (h : PE w p m k g cap s t d hd rv ev) (hl : LayHd hd c) (j : Nat) (hj : j < 9) : w.cell? ⟨p, 11 + j, none⟩ = (lcells c)[j]? := by
  rw [h.blk.at_, List.getElem?_toArray, List.getElem?_append_left (by have := h.len; omega)]
  exact hl j hj
/-- The nine cells of the layout. -/
def LayS (w : World) (p : Nat) (c : Cfg) : Prop := w.cell? ⟨p, 11, none⟩ = some (.int .i64 4) ∧ w.cell? ⟨p, 12, none⟩ = some (.int .i64 (4 + c.he)) ∧ w.cell? ⟨p, 13, none⟩ = some (.int .i64 (4 + c.he + c.cl)) ∧ w.cell? ⟨p, 14, none⟩ = some (.int .i64 (4 + c.he + c.cl + c.wo)) ∧ w.cell? ⟨p, 15, none⟩ = some (.int .i64 (rDeques c)) ∧ w.cell? ⟨p, 16, none⟩ = some (.int .i64 (rDeques c + rAll c)) ∧ w.cell? ⟨p, 17, none⟩ = some (.int .i64 (rCells c)) ∧ w.cell? ⟨p, 18, none⟩ = some (.int .i64 c.le) ∧ w.cell? ⟨p, 19, none⟩ = some (.int .i64 c.de)
theorem PE.layS (h : PE w p m k g cap s t d hd rv ev) (hl : LayHd hd c) : LayS w p c :=
  ⟨h.lay hl 0 (by omega), h.lay hl 1 (by omega), h.lay hl 2 (by omega), h.lay hl 3 (by omega), h.lay hl 4 (by omega), h.lay hl 5 (by omega), h.lay hl 6 (by omega), h.lay hl 7 (by omega), h.lay hl 8 (by omega)⟩
variable {b : Nat} {ty : TypeId} {cs : Array Value}
set_option maxRecDepth 100000 in
set_option maxHeartbeats 2000000 in
theorem lvqueue_any (hp : PE w p m k g cap s t d hd rv ev) (hl : LayHd hd c) (hin : CfgIn c) (hb : Blk w b ty cs) {wk lv : Int} (h4 : cs[4]? = some (.int .i64 wk)) (h5 : cs[5]? = some (.int .i64 lv)) :
    Calls Tryz.prog 198 #[.pointer (some ⟨b, 0, none⟩), .pointer (some ⟨p, 0, none⟩)] w (GivesQ (rQueue c wk lv) w) := by
  have P0 := Lib.hid hp
  have B0 := Lib.hid hb
  have H45 := Lib.hid (And.intro h4 h5)
  obtain ⟨z, hz⟩ : ∃ z, w.heap.size = z := ⟨_, rfl⟩
  have HX := Lib.hid (show Blk (w.alloc (.cells (qcells 0 0 0 0) 77)) z 77 (qcells 0 0 0 0) from hz ▸ Blk.made w 77 (qcells 0 0 0 0))
  have HB := Lib.hid (show Below z w (w.alloc (.cells (qcells 0 0 0 0) 77)) from hz ▸ below_one w (.cells (qcells 0 0 0 0) 77))
  clear hp hb h4 h5
  go_enter Tryz.func198, Tryz.ntmps198
  go_upto_region 1 with fail
  have P1 := Lib.hid ((P0.out.alloc (.cells (qcells 0 0 0 0) 77)).drewN 1)
  have B1 := Lib.hid (B0.out.below (hz.symm ▸ HB.out))
  have HB1 := Lib.hid (below_drew HB.out)
  have X1 := Lib.hid (show Blk (w.alloc (.cells (qcells 0 0 0 0) 77)).drew z 77 (qcells 0 0 0 0) from HX.out)
  have B2 := Lib.hid (show Blk (w.alloc (.cells (qcells 0 0 0 0) 77)).drew b ty cs from B1.out)
  generalize w.alloc (.cells (qcells 0 0 0 0) 77) = W at *
  obtain ⟨d0, d1, d2, d3, d4, d5, d6, d7, d8⟩ := P1.out.layS hl
  have d9 : W.drew.cell? ⟨b, 4, none⟩ = some (.int .i64 wk) := by rw [B2.out.at_]; exact H45.out.1
  have d10 : W.drew.cell? ⟨b, 5, none⟩ = some (.int .i64 lv) := by rw [B2.out.at_]; exact H45.out.2
  change W.drew.cell? _ = _ at d0 d1 d2 d3 d4 d5 d6 d7 d8
  clear B1 HX HB
  have HZ := Lib.hid hz
  clear hz
  go_still_tail 12, (by kernel_rfl)
  change wpList _ _ _ _ _ W.drew
  generalize W.drew = W1 at *
  go_wp2_with fail
  (with_reducible refine (lqueue_any hin wk lv).mono ?_)
  rintro e w1 ⟨rfl, hb3⟩
  have X3 := Lib.hid (X1.out.below hb3)
  have HB3 := Lib.hid (HB1.out.trans (hb3.mono (by have := HB1.out.size; have := HZ.out; omega)))
  have x0 := X3.out.at_ 0
  have x1 := X3.out.at_ 1
  have x2 := X3.out.at_ 2
  have x3 := X3.out.at_ 3
  have f0 := X3.out.free 0
  have f1 := X3.out.free 1
  have f2 := X3.out.free 2
  have f3 := X3.out.free 3
  clear hb3
  go_wp2
  have X4 := Lib.hid (X3.out.put4 (.int .i64 (rQueue c wk lv).1) (.int .i64 (rQueue c wk lv).2.1) (.int .i64 (rQueue c wk lv).2.2.1) (.int .i64 (rQueue c wk lv).2.2.2))
  refine bodyPost_ret (results_cell_row (P := Tryz.prog) Tryz.results198 _ _ z 77 _ (0, 0) _ rfl X4.out Tryz.underlying77 rfl (by kernel_rfl)) rfl ?_
  refine ⟨rfl, ?_⟩
  rw [HZ.out]
  exact (((HB3.out.setCell (Nat.le_refl _) _).setCell (Nat.le_refl _) _).setCell (Nat.le_refl _) _).setCell (Nat.le_refl _) _
set_option maxRecDepth 100000 in
set_option maxHeartbeats 2000000 in
theorem lvbitmap_any (hp : PE w p m k g cap s t d hd rv ev) (hl : LayHd hd c) (hin : CfgIn c) (hb : Blk w b ty cs) {wk : Int} (h4 : cs[4]? = some (.int .i64 wk)) :
    Calls Tryz.prog 203 #[.pointer (some ⟨b, 0, none⟩), .pointer (some ⟨p, 0, none⟩)] w (GivesI (rBitmap c wk) w) := by
  have P1 := Lib.hid (hp.drewN 1)
  have HB1 := Lib.hid (below_drew (Below.refl w.heap.size w))
  obtain ⟨d0, d1, d2, d3, d4, d5, d6, d7, d8⟩ := P1.out.layS hl
  have d9 : w.drew.cell? ⟨b, 4, none⟩ = some (.int .i64 wk) := by rw [show w.drew.cell? ⟨b, 4, none⟩ = w.cell? ⟨b, 4, none⟩ from rfl, hb.at_]; exact h4
  change w.drew.cell? _ = _ at d0 d1 d2 d3 d4 d5 d6 d7 d8
  clear hp hb h4
  go_enter Tryz.func203, Tryz.ntmps203
  go_upto_region 1 with fail
  go_still_tail 8, (by kernel_rfl)
  change wpList _ _ _ _ _ w.drew
  generalize w.drew = W1 at *
  go_wp2_with fail
  (with_reducible refine (lbitmap_any hin wk).mono ?_)
  rintro e w1 ⟨rfl, hb3⟩
  have HB3 := Lib.hid (HB1.out.trans (hb3.mono HB1.out.size))
  clear hb3
  go_wp2
  go_ret
  exact ⟨rfl, HB3.out⟩
end
end Go.Proofs.YtheimjcgpbmecaaGreat

namespace Go.Proofs.YtheimjcgpbmecaaGreat
open Go Go.RowKit

theorem tick_any {w : World} {p : Nat} {t d : Int} (h : Clk w p t d) :
    Calls Tryz.prog 18 #[.pointer (some ⟨p, 0, none⟩)] w fun e w' => e = .returned (.tuple #[]) ∧ Clk w' p (wrap64 (t + 1)) d ∧ Fr [p] w w' := by
  have h0 : w.cell? ⟨p, 0, none⟩ = some (.int .i64 t) := Blk.at_ h 0
  have f0 := Blk.free h 0
  go_enter Tryz.func18, Tryz.ntmps18
  go_wp2
  go_end0
  exact ⟨rfl, Blk.put h 0 _, (Fr.refl _ _).setCell (by simp) _⟩
end Go.Proofs.YtheimjcgpbmecaaGreat

namespace Go.Proofs.YtheimjcgpbmecaaGreat
open Go Go.RowKit

theorem set_any {w : World} {p : Nat} {t d : Int} (h : Clk w p t d) (x : Int) :
    Calls Tryz.prog 40 #[.pointer (some ⟨p, 0, none⟩), .int .i64 x] w fun e w' => e = .returned (.tuple #[]) ∧ Clk w' p t x ∧ Fr [p] w w' := by
  have h1 : w.cell? ⟨p, 1, none⟩ = some (.int .i64 d) := Blk.at_ h 1
  have f1 := Blk.free h 1
  go_enter Tryz.func40, Tryz.ntmps40
  go_wp2
  go_end0
  exact ⟨rfl, Blk.put h 1 _, (Fr.refl _ _).setCell (by simp) _⟩

end Go.Proofs.YtheimjcgpbmecaaGreat

namespace Go.Proofs.YtheimjcgpbmecaaGreat
open Go Go.RowKit Go.Shelf

/-- What the loop over the changes keeps. -/
def EnvsC (w2 : World) (p m k g n t : Nat) (hd : List Value) (rv : Value) (q : Nat) (A : EnvA) (i : Value) (wr : World) : Prop :=
  ∃ (j : Nat) (s : St), j ≤ 13 ∧ i = .int .i64 j ∧ Duo wr w2.heap.size p m k g n hd rv nilV q A s s 0 0 [] [] (newRs t) (newRs t) ∧ s.U ∧ (0 ≤ s.c ∧ s.c ≤ n + j) ∧ s.X.length = n ∧ Below w2.heap.size w2 wr
/-- What the loop of the ticks keeps. -/
def EnvsT (w2 : World) (p m k g n t : Nat) (hd : List Value) (rv : Value) (q : Nat) (A : EnvA) (s : St) (T : Nat) (i : Value) (wr : World) : Prop :=
  ∃ (j : Nat), j ≤ T ∧ i = .int .i64 j ∧ Duo wr w2.heap.size p m k g n hd rv nilV q A s s j 0 [] [] (newRs t) (newRs t) ∧ Below w2.heap.size w2 wr
theorem OwnR.offB {w w' : World} {B q : Nat} {ty : TypeId} {cs : Array Value} {v : Value} {rs : List Rec} (h : OwnR w B v rs) (hb : Blk w q ty cs) (h1 : ty ≠ 62) (h2 : ty ≠ 3) (hf : Fr [q] w w') : OwnR w' B v rs :=
  h.same fun k cs' t hk ht => hf.block k (Array.getElem?_eq_some_iff.1 hk).1 (fun hm => by
    simp at hm
    subst hm
    have e := ty_at hb hk
    rcases ht with rfl | rfl
    · exact h1 e
    · exact h2 e)
theorem OwnR.own {w : World} {B : Nat} {v : Value} {rs : List Rec} (h : OwnR w B v rs) : ∀ y, v.ownBlock = some y → B ≤ y ∧ y < w.heap.size := fun y hy => by
  obtain ⟨ks, _, h2, _⟩ := h
  exact World.ownsRow.lt h2 y hy
theorem hd_set22 {hd : List Value} (h : hd.length = 20) (a b c d v : Value) : (hd ++ [a, b, c, d]).toArray.setIfInBounds 22 v = (hd ++ [a, b, v, d]).toArray := by
  rw [List.setIfInBounds_toArray, List.set_append_right _ _ (by omega), h]
  rfl
theorem U_ofX {s s0 : St} (h : s0.U) (e : s.X = s0.X) : s.U := by
  obtain ⟨X, c, k, i, o, v⟩ := s
  obtain ⟨X0, c0, k0, i0, o0, v0⟩ := s0
  simp only at e
  subst e
  exact h
end Go.Proofs.YtheimjcgpbmecaaGreat
