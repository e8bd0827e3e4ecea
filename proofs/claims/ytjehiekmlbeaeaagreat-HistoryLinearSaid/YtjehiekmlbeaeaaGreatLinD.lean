/-
  Stage 11: what an operation does to the list of the search's state. (Written by wip/gen_after.py.)
-/
import Derived.Test.YtjehiekmlbeaeaaGreatLinC
import Derived.Test.YtjehiekmlbeaeaaGreatSeq
import Derived.Laws.ResultCell
import Derived.Deep.RegionHeld
namespace Go.Proofs.YtjehiekmlbeaeaaGreat
open Go Go.RowKit
set_option linter.unusedSimpArgs false
set_option linter.unusedVariables false

theorem results_row_tmpA {P : Program} {fn : Func} {p u : Tmp} {ty : TypeId} (h : fn.results = #[.cell p ty, .tmp u]) (tmps : Array Value) (w : World) (g : Nat) (t : TypeId) (cs : Array Value) (fr : Nat × Nat) (d : TypeDesc)
    (hp : tmps.getD p undef = .pointer (some ⟨g, 0, none⟩)) (hg : w.heap[g]? = some (.cells cs t fr))
    (hu : P.underlying ty = some d) (hd : (match d with | .struct _ | .array _ _ => true | _ => false) = true) (hi : (P.info? ty).map (·.size) = some cs.size) :
    (results fn tmps).run P w = .ok (.tuple #[.agg cs, tmps.getD u undef]) w := by
  rw [Go.results_cell_tmp h, hp]
  simp [asAddr, run_loadVar_row w g t ty cs fr d hg hu hd hi, Result.andThen]
/-- What after gives. -/
def AfterD (cap : Int) (x : OpR) (l : List Int) (w : World) (e : Ending) (w' : World) : Prop :=
  ∃ (l' : List Int) (b : Bool), e = .returned (.tuple #[.agg (lsA l'), .bool b]) ∧ l'.length ≤ 12 ∧ (b = true → appO cap x l = some l') ∧ (b = false → appO cap x l = none) ∧ Below w.heap.size w w'
/-- What holds on the way. -/
structure AfS (w : World) (l : List Int) (x : OpR) (g : Nat) (u : World) : Prop where
  l : Blk u g 163 (lsA l)
  x : Blk u (g + 1) 80 (opC x)
  r : Blk u (g + 1 + 1) 163 lsZ
  b : Below w.heap.size w u
  g : w.heap.size ≤ g
theorem AfS.below {w : World} {l : List Int} {x : OpR} {g : Nat} {u u' : World} (h : AfS w l x g u) (hb : Below u.heap.size u u') : AfS w l x g u' :=
  ⟨h.l.below hb, h.x.below hb, h.r.below hb, h.b.trans (hb.mono h.b.size), h.g⟩
theorem AfS.made (w : World) (l : List Int) (x : OpR) : AfS w l x w.heap.size (((w.alloc (.cells (lsA l) 163)).alloc (.cells (opC x) 80)).alloc (.cells lsZ 163)) := by
  have h := two_laid w 163 80 (lsA l) (opC x)
  have h3 := Blk.made ((w.alloc (.cells (lsA l) 163)).alloc (.cells (opC x) 80)) 163 lsZ
  rw [show ((w.alloc (.cells (lsA l) 163)).alloc (.cells (opC x) 80)).heap.size = w.heap.size + 1 + 1 by simp] at h3
  exact ⟨h.1.alloc _, h.2.1.alloc _, h3, h.2.2.alloc (by simp; omega) _, Nat.le_refl _⟩
/-- What a store of the result leaves alone. -/
structure AfL (w : World) (l : List Int) (x : OpR) (g : Nat) (u : World) : Prop where
  l : Blk u g 163 (lsA l)
  x : Blk u (g + 1) 80 (opC x)
  b : Below w.heap.size w u
theorem AfS.low {w : World} {l : List Int} {x : OpR} {g : Nat} {u : World} (h : AfS w l x g u) : AfL w l x g u := ⟨h.l, h.x, h.b⟩
theorem AfS.sto {w : World} {l : List Int} {x : OpR} {g : Nat} {u : World} (h : AfS w l x g u) (cs : Array Value) : AfL w l x g (u.setRow (g + 1 + 1) cs) :=
  ⟨h.l.of_same (setRow_other u (g + 1 + 1) g cs (by omega)), h.x.of_same (setRow_other u (g + 1 + 1) (g + 1) cs (by omega)), below_rowg h.b (by have := h.g; omega) cs⟩
theorem hidLs {l : List Int} (h : l.length ≤ 12) : (lsA l).size = 13 := lsA_size h

set_option maxRecDepth 100000 in
set_option maxHeartbeats 8000000 in
theorem after_0 (l : List Int) (x : OpR) (cap : Int) (w : World) (hl : l.length < 12) (hc : x.c = 0) : Calls Tryz.prog 103 #[.agg (lsA l), .agg (opC x), .int .i64 cap] w (AfterD cap x l w) := by
  obtain ⟨k, m, a, b, c, v⟩ := x
  obtain ⟨n, hn⟩ : ∃ n, l.length = n := ⟨_, rfl⟩
  have hS := lsA_size (l := l) (by omega)
  have HN := Lib.hid hn
  have HA := Lib.hid (AfS.made w l ⟨k, m, a, b, c, v⟩)
  have HLL := Lib.hid (show l.length ≤ 12 by omega)
  replace hc : c = 0 := hc
  have k0 : (c == 0) = true := by simp [hc]
  have HP := Lib.hid (pushed_any l v (by omega))
  have HL3 := Lib.hid (show (l ++ [v]).length ≤ 12 by simp; omega)
  have HC := Lib.hid hc
  clear hc
  go_enter Tryz.func103, Tryz.ntmps103
  go_upto_region 1 with fail
  generalize ((w.alloc (.cells (lsA l) 163)).alloc (.cells (opC ⟨k, m, a, b, c, v⟩) 80)).alloc (.cells lsZ 163) = W at *
  obtain ⟨g, hg⟩ : ∃ g, w.heap.size = g := ⟨_, rfl⟩
  have HG := Lib.hid (show w.heap.size ≤ g by omega)
  rw [hg] at HA ⊢
  clear hg
  have x4 : W.cell? ⟨g + 1, 4, none⟩ = some (.int .i64 c) := HA.out.x.at_ 4
  have y0 := HA.out.l.at_ 0
  rw [lsA_0, HN.out] at y0
  go_upto_region 3 with fail
  clear x4 y0 k0
  have HD := Lib.hid (HA.out.below (u' := W.drew) (below_drew (Below.refl _ _)))
  clear HA
  refine wp_region_held_drew (S := AfL w l ⟨k, m, a, b, c, v⟩ g) (by kernel_rfl) HD.out.low (fun _ => ?_)
  change wpAnyH _ _ _ _ _ 10 #[false, false, false, false, false, false, false, false, false, false] _ (World.drew _)
  generalize W.drew = V at *
  refine wpAnyH_take (i := 0) (v := .agg (lsA l)) rfl (by kernel_rfl) (by kernel_rfl) (by kernel_rfl) (fun _ _ _ h => h) (yields_row (by kernel_rfl) _ _ rfl g (by kernel_rfl) 163 (lsA l) (fun u hu => hu.l) _ Tryz.underlying163 rfl (info_list _ (hidLs HLL.out))) HD.out.low ?_
  simp only [List.getElem_toArray, List.getElem_cons_succ, List.getElem_cons_zero, Act.put, List.setIfInBounds_toArray, List.set_cons_zero, List.set_cons_succ]
  refine wpAnyH_take (i := 1) (v := .pointer (some ⟨g + 1, 5, none⟩)) rfl (by kernel_rfl) (by kernel_rfl) (by kernel_rfl) (fun _ _ _ h => h) (Or.inl ⟨by rfl, fun u hu => by (go_simp)⟩) HD.out.low ?_
  simp only [List.getElem_toArray, List.getElem_cons_succ, List.getElem_cons_zero, Act.put, List.setIfInBounds_toArray, List.set_cons_zero, List.set_cons_succ]
  refine wpAnyH_take (i := 2) (v := .int .i64 v) rfl (by kernel_rfl) (by kernel_rfl) (by kernel_rfl) (fun _ _ _ h => h) (Or.inl ⟨by rfl, fun u hu => by (have z : u.cell? ⟨g + 1, 5, none⟩ = some (.int .i64 v) := hu.x.at_ 5; go_simp)⟩) HD.out.low ?_
  simp only [List.getElem_toArray, List.getElem_cons_succ, List.getElem_cons_zero, Act.put, List.setIfInBounds_toArray, List.set_cons_zero, List.set_cons_succ]
  refine wpAnyH_take (i := 4) (v := .pointer (some ⟨g, 0, none⟩)) rfl (by kernel_rfl) (by kernel_rfl) (by kernel_rfl) (fun _ _ _ h => h) (Or.inl ⟨by rfl, fun u hu => by (go_simp)⟩) HD.out.low ?_
  simp only [List.getElem_toArray, List.getElem_cons_succ, List.getElem_cons_zero, Act.put, List.setIfInBounds_toArray, List.set_cons_zero, List.set_cons_succ]
  refine wpAnyH_take (i := 5) (v := .int .i64 n) rfl (by kernel_rfl) (by kernel_rfl) (by kernel_rfl) (fun _ _ _ h => h) (Or.inl ⟨by rfl, fun u hu => by (have z := hu.l.at_ 0; rw [lsA_0, HN.out] at z; go_simp)⟩) HD.out.low ?_
  simp only [List.getElem_toArray, List.getElem_cons_succ, List.getElem_cons_zero, Act.put, List.setIfInBounds_toArray, List.set_cons_zero, List.set_cons_succ]
  refine wpAnyH_take (i := 6) (v := .int .i64 cap) rfl (by kernel_rfl) (by kernel_rfl) (by kernel_rfl) (fun _ _ _ h => h) (Or.inl ⟨by rfl, fun u hu => by (go_simp)⟩) HD.out.low ?_
  simp only [List.getElem_toArray, List.getElem_cons_succ, List.getElem_cons_zero, Act.put, List.setIfInBounds_toArray, List.set_cons_zero, List.set_cons_succ]
  refine wpAnyH_take (i := 7) (v := .bool (decide ((n : Int) < cap))) rfl (by kernel_rfl) (by kernel_rfl) (by kernel_rfl) (fun _ _ _ h => h) (Or.inl ⟨by rfl, fun u hu => by (go_simp)⟩) HD.out.low ?_
  simp only [List.getElem_toArray, List.getElem_cons_succ, List.getElem_cons_zero, Act.put, List.setIfInBounds_toArray, List.set_cons_zero, List.set_cons_succ]
  refine wpAnyH_ready (rs := [3]) (by kernel_rfl) (by simp) ?_
  refine AllReadyH.cons rfl (fun K hK => ?_) AllReadyH.nil
  go_simp
  go_at_call 118
  (with_reducible refine (HP.out _).mono ?_)
  rintro e u1 ⟨rfl, b⟩
  have HE := Lib.hid (HD.out.below b)
  clear b HD
  refine hK.out _ _ HE.out.low (fun _ => ?_)
  clear hK K
  simp only [List.setIfInBounds_toArray, List.set_cons_zero, List.set_cons_succ]
  have hW := HE.out
  refine wpAnyH_ready (rs := [8]) (by kernel_rfl) (by simp) ?_
  refine AllReadyH.cons rfl (fun K hK => ?_) AllReadyH.nil
  refine wp_store_row 163 (.tmp 6) (.tmp 15) rfl (g + 1 + 1) (lsA (l ++ [v])) rfl rfl 163 lsZ hW.r (info_list _ (hidLs HL3.out)) (by rw [(hidLs HL3.out)]; rfl) lsA_one ?_
  refine hK.out _ _ (hW.sto _) (fun _ => ?_)
  clear hK K
  simp only [List.setIfInBounds_toArray, List.set_cons_zero, List.set_cons_succ]
  refine wpAnyH_ready (rs := [9]) (by kernel_rfl) (by simp) ?_
  refine AllReadyH.cons rfl (fun K hK => ?_) AllReadyH.nil
  go_simp
  refine hK.out _ _ (hW.sto _) (fun _ => ?_)
  clear hK K
  simp only [List.setIfInBounds_toArray, List.set_cons_zero, List.set_cons_succ]
  refine wpAnyH_done (by kernel_rfl) ?_ _
  go_wp2_with fail
  refine bodyPost_ret (results_row_tmpA (P := Tryz.prog) Tryz.results103 _ _ (g + 1 + 1) 163 _ (0, 0) _ rfl (hW.r.setRow _) Tryz.underlying163 rfl (info_list _ (hidLs HL3.out))) rfl ?_
  have e : appO cap ⟨k, m, a, b, c, v⟩ l = if (l.length : Int) < cap then some (l ++ [v]) else none := by unfold appO; rw [if_pos HC.out]
  rw [HN.out] at e
  refine ⟨l ++ [v], decide ((n : Int) < cap), rfl, HL3.out, fun hb => ?_, fun hb => ?_, below_rowg hW.b (by have := HG.out; omega) _⟩
  · rw [e, if_pos (of_decide_eq_true hb)]
  · rw [e, if_neg (of_decide_eq_false hb)]
set_option maxRecDepth 100000 in
set_option maxHeartbeats 8000000 in
theorem after_3 (l : List Int) (x : OpR) (cap : Int) (w : World) (hl : l.length ≤ 12) (hc : x.c = 3) : Calls Tryz.prog 103 #[.agg (lsA l), .agg (opC x), .int .i64 cap] w (AfterD cap x l w) := by
  obtain ⟨k, m, a, b, c, v⟩ := x
  obtain ⟨n, hn⟩ : ∃ n, l.length = n := ⟨_, rfl⟩
  have hS := lsA_size (l := l) (by omega)
  have HN := Lib.hid hn
  have HA := Lib.hid (AfS.made w l ⟨k, m, a, b, c, v⟩)
  have HLL := Lib.hid (show l.length ≤ 12 by omega)
  replace hc : c = 3 := hc
  have k0 : (c == 0) = false := by simp; omega
  have k3 : (c == 3) = true := by simp [hc]
  have HC := Lib.hid hc
  clear hc
  go_enter Tryz.func103, Tryz.ntmps103
  go_upto_region 1 with fail
  generalize ((w.alloc (.cells (lsA l) 163)).alloc (.cells (opC ⟨k, m, a, b, c, v⟩) 80)).alloc (.cells lsZ 163) = W at *
  obtain ⟨g, hg⟩ : ∃ g, w.heap.size = g := ⟨_, rfl⟩
  have HG := Lib.hid (show w.heap.size ≤ g by omega)
  rw [hg] at HA ⊢
  clear hg
  have x4 : W.cell? ⟨g + 1, 4, none⟩ = some (.int .i64 c) := HA.out.x.at_ 4
  have y0 := HA.out.l.at_ 0
  rw [lsA_0, HN.out] at y0
  go_upto_region 5 with fail
  clear x4 y0 k0 k3
  have HD := Lib.hid (HA.out.below (u' := W.drew) (below_drew (Below.refl _ _)))
  clear HA
  refine wp_region_held_drew (S := AfL w l ⟨k, m, a, b, c, v⟩ g) (by kernel_rfl) HD.out.low (fun _ => ?_)
  change wpAnyH _ _ _ _ _ 7 #[false, false, false, false, false, false, false] _ (World.drew _)
  generalize W.drew = V at *
  refine wpAnyH_take (i := 0) (v := .agg (lsA l)) rfl (by kernel_rfl) (by kernel_rfl) (by kernel_rfl) (fun _ _ _ h => h) (yields_row (by kernel_rfl) _ _ rfl g (by kernel_rfl) 163 (lsA l) (fun u hu => hu.l) _ Tryz.underlying163 rfl (info_list _ (hidLs HLL.out))) HD.out.low ?_
  simp only [List.getElem_toArray, List.getElem_cons_succ, List.getElem_cons_zero, Act.put, List.setIfInBounds_toArray, List.set_cons_zero, List.set_cons_succ]
  refine wpAnyH_take (i := 1) (v := .pointer (some ⟨g, 0, none⟩)) rfl (by kernel_rfl) (by kernel_rfl) (by kernel_rfl) (fun _ _ _ h => h) (Or.inl ⟨by rfl, fun u hu => by (go_simp)⟩) HD.out.low ?_
  simp only [List.getElem_toArray, List.getElem_cons_succ, List.getElem_cons_zero, Act.put, List.setIfInBounds_toArray, List.set_cons_zero, List.set_cons_succ]
  refine wpAnyH_take (i := 2) (v := .int .i64 n) rfl (by kernel_rfl) (by kernel_rfl) (by kernel_rfl) (fun _ _ _ h => h) (Or.inl ⟨by rfl, fun u hu => by (have z := hu.l.at_ 0; rw [lsA_0, HN.out] at z; go_simp)⟩) HD.out.low ?_
  simp only [List.getElem_toArray, List.getElem_cons_succ, List.getElem_cons_zero, Act.put, List.setIfInBounds_toArray, List.set_cons_zero, List.set_cons_succ]
  refine wpAnyH_take (i := 3) (v := .int .i64 cap) rfl (by kernel_rfl) (by kernel_rfl) (by kernel_rfl) (fun _ _ _ h => h) (Or.inl ⟨by rfl, fun u hu => by (go_simp)⟩) HD.out.low ?_
  simp only [List.getElem_toArray, List.getElem_cons_succ, List.getElem_cons_zero, Act.put, List.setIfInBounds_toArray, List.set_cons_zero, List.set_cons_succ]
  refine wpAnyH_take (i := 4) (v := .bool (decide (cap ≤ (n : Int)))) rfl (by kernel_rfl) (by kernel_rfl) (by kernel_rfl) (fun _ _ _ h => h) (Or.inl ⟨by rfl, fun u hu => by (go_simp)⟩) HD.out.low ?_
  simp only [List.getElem_toArray, List.getElem_cons_succ, List.getElem_cons_zero, Act.put, List.setIfInBounds_toArray, List.set_cons_zero, List.set_cons_succ]
  have hW := HD.out
  refine wpAnyH_ready (rs := [5]) (by kernel_rfl) (by simp) ?_
  refine AllReadyH.cons rfl (fun K hK => ?_) AllReadyH.nil
  refine wp_store_row 163 (.tmp 6) (.tmp 22) rfl (g + 1 + 1) (lsA l) rfl rfl 163 lsZ hW.r (info_list _ (hidLs HLL.out)) (by rw [(hidLs HLL.out)]; rfl) lsA_one ?_
  refine hK.out _ _ (hW.sto _) (fun _ => ?_)
  clear hK K
  simp only [List.setIfInBounds_toArray, List.set_cons_zero, List.set_cons_succ]
  refine wpAnyH_ready (rs := [6]) (by kernel_rfl) (by simp) ?_
  refine AllReadyH.cons rfl (fun K hK => ?_) AllReadyH.nil
  go_simp
  refine hK.out _ _ (hW.sto _) (fun _ => ?_)
  clear hK K
  simp only [List.setIfInBounds_toArray, List.set_cons_zero, List.set_cons_succ]
  refine wpAnyH_done (by kernel_rfl) ?_ _
  go_wp2_with fail
  refine bodyPost_ret (results_row_tmpA (P := Tryz.prog) Tryz.results103 _ _ (g + 1 + 1) 163 _ (0, 0) _ rfl (hW.r.setRow _) Tryz.underlying163 rfl (info_list _ (hidLs HLL.out))) rfl ?_
  have e : appO cap ⟨k, m, a, b, c, v⟩ l = if cap ≤ (l.length : Int) then some l else none := by
    have hc0 : c = 3 := HC.out
    unfold appO
    simp only [hc0]
    rfl
  rw [HN.out] at e
  refine ⟨l, decide (cap ≤ (n : Int)), rfl, HLL.out, fun hb => ?_, fun hb => ?_, below_rowg hW.b (by have := HG.out; omega) _⟩
  · rw [e, if_pos (by simpa using hb)]
  · rw [e, if_neg (by simpa using hb)]
set_option maxRecDepth 100000 in
set_option maxHeartbeats 8000000 in
theorem after_2 (l : List Int) (x : OpR) (cap : Int) (w : World) (hl : l.length ≤ 12) (hc : x.c = 2) : Calls Tryz.prog 103 #[.agg (lsA l), .agg (opC x), .int .i64 cap] w (AfterD cap x l w) := by
  obtain ⟨k, m, a, b, c, v⟩ := x
  obtain ⟨n, hn⟩ : ∃ n, l.length = n := ⟨_, rfl⟩
  have hS := lsA_size (l := l) (by omega)
  have HN := Lib.hid hn
  have HA := Lib.hid (AfS.made w l ⟨k, m, a, b, c, v⟩)
  have HLL := Lib.hid (show l.length ≤ 12 by omega)
  replace hc : c = 2 := hc
  have k0 : (c == 0) = false := by simp; omega
  have k3 : (c == 3) = false := by simp; omega
  have k2 : (c == 2) = true := by simp [hc]
  have HC := Lib.hid hc
  clear hc
  go_enter Tryz.func103, Tryz.ntmps103
  go_upto_region 1 with fail
  generalize ((w.alloc (.cells (lsA l) 163)).alloc (.cells (opC ⟨k, m, a, b, c, v⟩) 80)).alloc (.cells lsZ 163) = W at *
  obtain ⟨g, hg⟩ : ∃ g, w.heap.size = g := ⟨_, rfl⟩
  have HG := Lib.hid (show w.heap.size ≤ g by omega)
  rw [hg] at HA ⊢
  clear hg
  have x4 : W.cell? ⟨g + 1, 4, none⟩ = some (.int .i64 c) := HA.out.x.at_ 4
  have y0 := HA.out.l.at_ 0
  rw [lsA_0, HN.out] at y0
  go_upto_region 7 with fail
  clear x4 y0 k0 k3 k2
  have HD := Lib.hid (HA.out.below (u' := W.drew) (below_drew (Below.refl _ _)))
  clear HA
  refine wp_region_held_drew (S := AfL w l ⟨k, m, a, b, c, v⟩ g) (by kernel_rfl) HD.out.low (fun _ => ?_)
  change wpAnyH _ _ _ _ _ 6 #[false, false, false, false, false, false] _ (World.drew _)
  generalize W.drew = V at *
  refine wpAnyH_take (i := 0) (v := .agg (lsA l)) rfl (by kernel_rfl) (by kernel_rfl) (by kernel_rfl) (fun _ _ _ h => h) (yields_row (by kernel_rfl) _ _ rfl g (by kernel_rfl) 163 (lsA l) (fun u hu => hu.l) _ Tryz.underlying163 rfl (info_list _ (hidLs HLL.out))) HD.out.low ?_
  simp only [List.getElem_toArray, List.getElem_cons_succ, List.getElem_cons_zero, Act.put, List.setIfInBounds_toArray, List.set_cons_zero, List.set_cons_succ]
  refine wpAnyH_take (i := 1) (v := .pointer (some ⟨g, 0, none⟩)) rfl (by kernel_rfl) (by kernel_rfl) (by kernel_rfl) (fun _ _ _ h => h) (Or.inl ⟨by rfl, fun u hu => by (go_simp)⟩) HD.out.low ?_
  simp only [List.getElem_toArray, List.getElem_cons_succ, List.getElem_cons_zero, Act.put, List.setIfInBounds_toArray, List.set_cons_zero, List.set_cons_succ]
  refine wpAnyH_take (i := 2) (v := .int .i64 n) rfl (by kernel_rfl) (by kernel_rfl) (by kernel_rfl) (fun _ _ _ h => h) (Or.inl ⟨by rfl, fun u hu => by (have z := hu.l.at_ 0; rw [lsA_0, HN.out] at z; go_simp)⟩) HD.out.low ?_
  simp only [List.getElem_toArray, List.getElem_cons_succ, List.getElem_cons_zero, Act.put, List.setIfInBounds_toArray, List.set_cons_zero, List.set_cons_succ]
  refine wpAnyH_take (i := 3) (v := .bool (((n : Int) == 0))) rfl (by kernel_rfl) (by kernel_rfl) (by kernel_rfl) (fun _ _ _ h => h) (Or.inl ⟨by rfl, fun u hu => by (go_simp)⟩) HD.out.low ?_
  simp only [List.getElem_toArray, List.getElem_cons_succ, List.getElem_cons_zero, Act.put, List.setIfInBounds_toArray, List.set_cons_zero, List.set_cons_succ]
  have hW := HD.out
  refine wpAnyH_ready (rs := [4]) (by kernel_rfl) (by simp) ?_
  refine AllReadyH.cons rfl (fun K hK => ?_) AllReadyH.nil
  refine wp_store_row 163 (.tmp 6) (.tmp 29) rfl (g + 1 + 1) (lsA l) rfl rfl 163 lsZ hW.r (info_list _ (hidLs HLL.out)) (by rw [(hidLs HLL.out)]; rfl) lsA_one ?_
  refine hK.out _ _ (hW.sto _) (fun _ => ?_)
  clear hK K
  simp only [List.setIfInBounds_toArray, List.set_cons_zero, List.set_cons_succ]
  refine wpAnyH_ready (rs := [5]) (by kernel_rfl) (by simp) ?_
  refine AllReadyH.cons rfl (fun K hK => ?_) AllReadyH.nil
  go_simp
  refine hK.out _ _ (hW.sto _) (fun _ => ?_)
  clear hK K
  simp only [List.setIfInBounds_toArray, List.set_cons_zero, List.set_cons_succ]
  refine wpAnyH_done (by kernel_rfl) ?_ _
  go_wp2_with fail
  refine bodyPost_ret (results_row_tmpA (P := Tryz.prog) Tryz.results103 _ _ (g + 1 + 1) 163 _ (0, 0) _ rfl (hW.r.setRow _) Tryz.underlying163 rfl (info_list _ (hidLs HLL.out))) rfl ?_
  have e : appO cap ⟨k, m, a, b, c, v⟩ l = if l.length = 0 then some l else none := by
    have hc0 : c = 2 := HC.out
    unfold appO
    simp only [hc0]
    rfl
  rw [HN.out] at e
  refine ⟨l, ((n : Int) == 0), rfl, HLL.out, fun hb => ?_, fun hb => ?_, below_rowg hW.b (by have := HG.out; omega) _⟩
  · rw [e, if_pos (by simpa using hb)]
  · rw [e, if_neg (by simpa using hb)]
set_option maxRecDepth 100000 in
set_option maxHeartbeats 8000000 in
theorem after_4 (l : List Int) (x : OpR) (cap : Int) (w : World) (hl : l.length ≤ 12) (hc : x.c = 4) : Calls Tryz.prog 103 #[.agg (lsA l), .agg (opC x), .int .i64 cap] w (AfterD cap x l w) := by
  obtain ⟨k, m, a, b, c, v⟩ := x
  obtain ⟨n, hn⟩ : ∃ n, l.length = n := ⟨_, rfl⟩
  have hS := lsA_size (l := l) (by omega)
  have HN := Lib.hid hn
  have HA := Lib.hid (AfS.made w l ⟨k, m, a, b, c, v⟩)
  have HLL := Lib.hid (show l.length ≤ 12 by omega)
  replace hc : c = 4 := hc
  have k0 : (c == 0) = false := by simp; omega
  have k3 : (c == 3) = false := by simp; omega
  have k2 : (c == 2) = false := by simp; omega
  have k4 : (c == 4) = true := by simp [hc]
  have HC := Lib.hid hc
  clear hc
  go_enter Tryz.func103, Tryz.ntmps103
  go_upto_region 1 with fail
  generalize ((w.alloc (.cells (lsA l) 163)).alloc (.cells (opC ⟨k, m, a, b, c, v⟩) 80)).alloc (.cells lsZ 163) = W at *
  obtain ⟨g, hg⟩ : ∃ g, w.heap.size = g := ⟨_, rfl⟩
  have HG := Lib.hid (show w.heap.size ≤ g by omega)
  rw [hg] at HA ⊢
  clear hg
  have x4 : W.cell? ⟨g + 1, 4, none⟩ = some (.int .i64 c) := HA.out.x.at_ 4
  have y0 := HA.out.l.at_ 0
  rw [lsA_0, HN.out] at y0
  go_upto_region 9 with fail
  clear x4 y0 k0 k3 k2 k4
  have hW := HA.out
  go_wp2_with (first | (refine wpList_load_row rfl 163 (.tmp 3) rfl g rfl 163 _ (0, 0) _ hW.l Tryz.underlying163 rfl (info_list _ (hidLs HLL.out)) ?_) | (refine wpList_store_rowTo rfl 163 (.tmp 6) (.tmp 35) rfl rfl (g + 1 + 1) (lsA l) rfl rfl 163 lsZ hW.r (info_list _ (hidLs HLL.out)) (by rw [hidLs HLL.out]; rfl) lsA_one ?_))
  refine bodyPost_ret (results_row_tmpA (P := Tryz.prog) Tryz.results103 _ _ (g + 1 + 1) 163 _ (0, 0) _ rfl (hW.r.setRow _) Tryz.underlying163 rfl (info_list _ (hidLs HLL.out))) rfl ?_
  refine ⟨l, true, rfl, HLL.out, fun _ => appO_abort HC.out, fun hb => (by cases hb), below_rowg hW.b (by have := HG.out; omega) _⟩
set_option maxRecDepth 100000 in
set_option maxHeartbeats 8000000 in
theorem after_1n (l : List Int) (x : OpR) (cap : Int) (w : World) (hl : l.length ≤ 12) (hc : x.c = 1) (hl0 : l.length = 0) : Calls Tryz.prog 103 #[.agg (lsA l), .agg (opC x), .int .i64 cap] w (AfterD cap x l w) := by
  obtain ⟨k, m, a, b, c, v⟩ := x
  obtain ⟨n, hn⟩ : ∃ n, l.length = n := ⟨_, rfl⟩
  have hS := lsA_size (l := l) (by omega)
  have HN := Lib.hid hn
  have HA := Lib.hid (AfS.made w l ⟨k, m, a, b, c, v⟩)
  have HLL := Lib.hid (show l.length ≤ 12 by omega)
  replace hc : c = 1 := hc
  have k0 : (c == 0) = false := by simp; omega
  have k3 : (c == 3) = false := by simp; omega
  have k2 : (c == 2) = false := by simp; omega
  have k4 : (c == 4) = false := by simp; omega
  have HC := Lib.hid (And.intro hc hl0)
  have hn0 : n = 0 := by omega
  have hz : ((n : Int) == 0) = true := by simp [hn0]
  clear hc hl0 hn0
  go_enter Tryz.func103, Tryz.ntmps103
  go_upto_region 1 with fail
  generalize ((w.alloc (.cells (lsA l) 163)).alloc (.cells (opC ⟨k, m, a, b, c, v⟩) 80)).alloc (.cells lsZ 163) = W at *
  obtain ⟨g, hg⟩ : ∃ g, w.heap.size = g := ⟨_, rfl⟩
  have HG := Lib.hid (show w.heap.size ≤ g by omega)
  rw [hg] at HA ⊢
  clear hg
  have x4 : W.cell? ⟨g + 1, 4, none⟩ = some (.int .i64 c) := HA.out.x.at_ 4
  have y0 := HA.out.l.at_ 0
  rw [lsA_0, HN.out] at y0
  go_upto_region 11 with fail
  clear x4 y0 k0 k3 k2 k4 hz
  have hW := HA.out
  go_wp2_with (first | (refine wpList_load_row rfl 163 (.tmp 3) rfl g rfl 163 _ (0, 0) _ hW.l Tryz.underlying163 rfl (info_list _ (hidLs HLL.out)) ?_) | (refine wpList_store_rowTo rfl 163 (.tmp 6) (.tmp 39) rfl rfl (g + 1 + 1) (lsA l) rfl rfl 163 lsZ hW.r (info_list _ (hidLs HLL.out)) (by rw [hidLs HLL.out]; rfl) lsA_one ?_))
  refine bodyPost_ret (results_row_tmpA (P := Tryz.prog) Tryz.results103 _ _ (g + 1 + 1) 163 _ (0, 0) _ rfl (hW.r.setRow _) Tryz.underlying163 rfl (info_list _ (hidLs HLL.out))) rfl ?_
  refine ⟨l, false, rfl, HLL.out, fun hb => (by cases hb), fun _ => ?_, below_rowg hW.b (by have := HG.out; omega) _⟩
  have hc0 : c = 1 := HC.out.1
  unfold appO
  simp only [hc0]
  rw [if_neg (by decide), if_neg (by decide), if_neg (by decide), if_neg (by decide), if_pos HC.out.2]
set_option maxRecDepth 100000 in
set_option maxHeartbeats 8000000 in
theorem after_1p (l : List Int) (x : OpR) (cap : Int) (w : World) (hl : l.length ≤ 12) (hc : x.c = 1) (hl0 : ¬ l.length = 0) (hk : x.k = 1) : Calls Tryz.prog 103 #[.agg (lsA l), .agg (opC x), .int .i64 cap] w (AfterD cap x l w) := by
  obtain ⟨k, m, a, b, c, v⟩ := x
  obtain ⟨n, hn⟩ : ∃ n, l.length = n := ⟨_, rfl⟩
  have hS := lsA_size (l := l) (by omega)
  have HN := Lib.hid hn
  have HA := Lib.hid (AfS.made w l ⟨k, m, a, b, c, v⟩)
  have HLL := Lib.hid (show l.length ≤ 12 by omega)
  replace hc : c = 1 := hc
  replace hk : k = 1 := hk
  have k0 : (c == 0) = false := by simp; omega
  have k3 : (c == 3) = false := by simp; omega
  have k2 : (c == 2) = false := by simp; omega
  have k4 : (c == 4) = false := by simp; omega
  have HC := Lib.hid (And.intro hc (And.intro hl0 hk))
  have hn0 : ¬ n = 0 := by omega
  have hz : ((n : Int) == 0) = false := by simp; omega
  have hkk : (k == 1) = true := by simp [hk]
  obtain ⟨m1, hm1⟩ : ∃ m1 : Nat, n = m1 + 1 := ⟨n - 1, by omega⟩
  have HM := Lib.hid (And.intro hm1 (show (n : Int) - 1 = (m1 : Int) by omega))
  have hb1 : (1 : Int) ≤ (n : Int) ∧ (n : Int) ≤ 12 := by omega
  have HNE := Lib.hid (show l ≠ [] from fun e => by subst e; simp at hn; omega)
  clear hc hl0 hn0 hm1 hk
  go_enter Tryz.func103, Tryz.ntmps103
  go_upto_region 1 with fail
  generalize ((w.alloc (.cells (lsA l) 163)).alloc (.cells (opC ⟨k, m, a, b, c, v⟩) 80)).alloc (.cells lsZ 163) = W at *
  obtain ⟨g, hg⟩ : ∃ g, w.heap.size = g := ⟨_, rfl⟩
  have HG := Lib.hid (show w.heap.size ≤ g by omega)
  rw [hg] at HA ⊢
  clear hg
  have HP := Lib.hid (popped_any l HLL.out HNE.out)
  have HL3 := Lib.hid (show (l.dropLast).length ≤ 12 by have := HLL.out; simp; omega)
  have x4 : W.cell? ⟨g + 1, 4, none⟩ = some (.int .i64 c) := HA.out.x.at_ 4
  have x0 : W.cell? ⟨g + 1, 0, none⟩ = some (.int .i64 k) := HA.out.x.at_ 0
  have y0 := HA.out.l.at_ 0
  rw [lsA_0, HN.out] at y0
  go_upto_region 13 with fail
  clear x4 x0 y0 k0 k3 k2 k4 hz hkk
  have HD := Lib.hid (HA.out.below (u' := W.drew) (below_drew (Below.refl _ _)))
  clear HA
  refine wp_region_held_drew (S := AfL w l ⟨k, m, a, b, c, v⟩ g) (by kernel_rfl) HD.out.low (fun _ => ?_)
  change wpAnyH _ _ _ _ _ 13 #[false, false, false, false, false, false, false, false, false, false, false, false, false] _ (World.drew _)
  generalize W.drew = V at *
  refine wpAnyH_take (i := 0) (v := .agg (lsA l)) rfl (by kernel_rfl) (by kernel_rfl) (by kernel_rfl) (fun _ _ _ h => h) (yields_row (by kernel_rfl) _ _ rfl g (by kernel_rfl) 163 (lsA l) (fun u hu => hu.l) _ Tryz.underlying163 rfl (info_list _ (hidLs HLL.out))) HD.out.low ?_
  simp only [List.getElem_toArray, List.getElem_cons_succ, List.getElem_cons_zero, Act.put, List.setIfInBounds_toArray, List.set_cons_zero, List.set_cons_succ]
  refine wpAnyH_take (i := 2) (v := .pointer (some ⟨g, 0, none⟩)) rfl (by kernel_rfl) (by kernel_rfl) (by kernel_rfl) (fun _ _ _ h => h) (Or.inl ⟨by rfl, fun u hu => by (go_simp)⟩) HD.out.low ?_
  simp only [List.getElem_toArray, List.getElem_cons_succ, List.getElem_cons_zero, Act.put, List.setIfInBounds_toArray, List.set_cons_zero, List.set_cons_succ]
  refine wpAnyH_take (i := 3) (v := .int .i64 n) rfl (by kernel_rfl) (by kernel_rfl) (by kernel_rfl) (fun _ _ _ h => h) (Or.inl ⟨by rfl, fun u hu => by (have z := hu.l.at_ 0; rw [lsA_0, HN.out] at z; go_simp)⟩) HD.out.low ?_
  simp only [List.getElem_toArray, List.getElem_cons_succ, List.getElem_cons_zero, Act.put, List.setIfInBounds_toArray, List.set_cons_zero, List.set_cons_succ]
  refine wpAnyH_take (i := 4) (v := .int .i64 m1) rfl (by kernel_rfl) (by kernel_rfl) (by kernel_rfl) (fun _ _ _ h => h) (Or.inl ⟨by rfl, fun u hu => by (have z3 : IntKind.i64.wrap (m1 : Int) = (m1 : Int) := (by have := HM.out.1; rw [IntKind.wrap_i64]; omega); have z := HM.out.2; go_simp)⟩) HD.out.low ?_
  simp only [List.getElem_toArray, List.getElem_cons_succ, List.getElem_cons_zero, Act.put, List.setIfInBounds_toArray, List.set_cons_zero, List.set_cons_succ]
  refine wpAnyH_take (i := 5) (v := .pointer (some ⟨g, 1, none⟩)) rfl (by kernel_rfl) (by kernel_rfl) (by kernel_rfl) (fun _ _ _ h => h) (Or.inl ⟨by rfl, fun u hu => by (go_simp)⟩) HD.out.low ?_
  simp only [List.getElem_toArray, List.getElem_cons_succ, List.getElem_cons_zero, Act.put, List.setIfInBounds_toArray, List.set_cons_zero, List.set_cons_succ]
  refine wpAnyH_take (i := 6) (v := .pointer (some ⟨g, 1 + m1, none⟩)) rfl (by kernel_rfl) (by kernel_rfl) (by kernel_rfl) (fun _ _ _ h => h) (Or.inl ⟨by rfl, fun u hu => by (have z : (m1 : Int) < 12 := (by have := HM.out.1; omega); have z2 : (0 : Int) ≤ (m1 : Int) := (by omega); go_simp)⟩) HD.out.low ?_
  simp only [List.getElem_toArray, List.getElem_cons_succ, List.getElem_cons_zero, Act.put, List.setIfInBounds_toArray, List.set_cons_zero, List.set_cons_succ]
  refine wpAnyH_take (i := 7) (v := .int .i64 (l.getD m1 0)) rfl (by kernel_rfl) (by kernel_rfl) (by kernel_rfl) (fun _ _ _ h => h) (Or.inl ⟨by rfl, fun u hu => by (have z := hu.l.at_ (1 + m1); rw [lsA_at HLL.out (by have := HM.out.1; omega)] at z; go_simp)⟩) HD.out.low ?_
  simp only [List.getElem_toArray, List.getElem_cons_succ, List.getElem_cons_zero, Act.put, List.setIfInBounds_toArray, List.set_cons_zero, List.set_cons_succ]
  refine wpAnyH_take (i := 8) (v := .pointer (some ⟨g + 1, 5, none⟩)) rfl (by kernel_rfl) (by kernel_rfl) (by kernel_rfl) (fun _ _ _ h => h) (Or.inl ⟨by rfl, fun u hu => by (go_simp)⟩) HD.out.low ?_
  simp only [List.getElem_toArray, List.getElem_cons_succ, List.getElem_cons_zero, Act.put, List.setIfInBounds_toArray, List.set_cons_zero, List.set_cons_succ]
  refine wpAnyH_take (i := 9) (v := .int .i64 v) rfl (by kernel_rfl) (by kernel_rfl) (by kernel_rfl) (fun _ _ _ h => h) (Or.inl ⟨by rfl, fun u hu => by (have z : u.cell? ⟨g + 1, 5, none⟩ = some (.int .i64 v) := hu.x.at_ 5; go_simp)⟩) HD.out.low ?_
  simp only [List.getElem_toArray, List.getElem_cons_succ, List.getElem_cons_zero, Act.put, List.setIfInBounds_toArray, List.set_cons_zero, List.set_cons_succ]
  refine wpAnyH_take (i := 10) (v := .bool (l.getD m1 0 == v)) rfl (by kernel_rfl) (by kernel_rfl) (by kernel_rfl) (fun _ _ _ h => h) (Or.inl ⟨by rfl, fun u hu => by (go_simp)⟩) HD.out.low ?_
  simp only [List.getElem_toArray, List.getElem_cons_succ, List.getElem_cons_zero, Act.put, List.setIfInBounds_toArray, List.set_cons_zero, List.set_cons_succ]
  refine wpAnyH_ready (rs := [1]) (by kernel_rfl) (by simp) ?_
  refine AllReadyH.cons rfl (fun K hK => ?_) AllReadyH.nil
  go_simp
  go_at_call 119
  (with_reducible refine (HP.out _).mono ?_)
  rintro e u1 ⟨rfl, b⟩
  have HE := Lib.hid (HD.out.below b)
  clear b HD
  refine hK.out _ _ HE.out.low (fun _ => ?_)
  clear hK K
  simp only [List.setIfInBounds_toArray, List.set_cons_zero, List.set_cons_succ]
  have hW := HE.out
  refine wpAnyH_ready (rs := [11]) (by kernel_rfl) (by simp) ?_
  refine AllReadyH.cons rfl (fun K hK => ?_) AllReadyH.nil
  refine wp_store_row 163 (.tmp 6) (.tmp 44) rfl (g + 1 + 1) (lsA (l.dropLast)) rfl rfl 163 lsZ hW.r (info_list _ (hidLs HL3.out)) (by rw [(hidLs HL3.out)]; rfl) lsA_one ?_
  refine hK.out _ _ (hW.sto _) (fun _ => ?_)
  clear hK K
  simp only [List.setIfInBounds_toArray, List.set_cons_zero, List.set_cons_succ]
  refine wpAnyH_ready (rs := [12]) (by kernel_rfl) (by simp) ?_
  refine AllReadyH.cons rfl (fun K hK => ?_) AllReadyH.nil
  go_simp
  refine hK.out _ _ (hW.sto _) (fun _ => ?_)
  clear hK K
  simp only [List.setIfInBounds_toArray, List.set_cons_zero, List.set_cons_succ]
  refine wpAnyH_done (by kernel_rfl) ?_ _
  go_wp2_with fail
  refine bodyPost_ret (results_row_tmpA (P := Tryz.prog) Tryz.results103 _ _ (g + 1 + 1) 163 _ (0, 0) _ rfl (hW.r.setRow _) Tryz.underlying163 rfl (info_list _ (hidLs HL3.out))) rfl ?_
  have e : appO cap ⟨k, m, a, b, c, v⟩ l = if l.getD m1 0 = v then some (l.dropLast) else none := by
    obtain ⟨hc0, hl1, hk0⟩ := HC.out
    replace hc0 : c = 1 := hc0
    replace hk0 : k = 1 := hk0
    have hnn := HN.out
    have hmm := HM.out.1
    unfold appO
    simp only [hc0]
    rw [if_neg (by decide), if_neg (by decide), if_neg (by decide), if_neg (by decide), if_neg hl1, if_pos hk0]
    rw [show l.getLastD 0 = l.getD m1 0 by rw [List.getLastD_eq_getLast?, List.getLast?_eq_getElem?, List.getD_eq_getElem?_getD, show l.length - 1 = m1 by omega]]
  refine ⟨l.dropLast, (l.getD m1 0 == v), rfl, HL3.out, fun hb => ?_, fun hb => ?_, below_rowg hW.b (by have := HG.out; omega) _⟩
  · rw [e, if_pos (by simpa using hb)]
  · rw [e, if_neg (by simpa using hb)]
set_option maxRecDepth 100000 in
set_option maxHeartbeats 8000000 in
theorem after_1s (l : List Int) (x : OpR) (cap : Int) (w : World) (hl : l.length ≤ 12) (hc : x.c = 1) (hl0 : ¬ l.length = 0) (hk : ¬ x.k = 1) : Calls Tryz.prog 103 #[.agg (lsA l), .agg (opC x), .int .i64 cap] w (AfterD cap x l w) := by
  obtain ⟨k, m, a, b, c, v⟩ := x
  obtain ⟨n, hn⟩ : ∃ n, l.length = n := ⟨_, rfl⟩
  have hS := lsA_size (l := l) (by omega)
  have HN := Lib.hid hn
  have HA := Lib.hid (AfS.made w l ⟨k, m, a, b, c, v⟩)
  have HLL := Lib.hid (show l.length ≤ 12 by omega)
  replace hc : c = 1 := hc
  replace hk : ¬ k = 1 := hk
  have k0 : (c == 0) = false := by simp; omega
  have k3 : (c == 3) = false := by simp; omega
  have k2 : (c == 2) = false := by simp; omega
  have k4 : (c == 4) = false := by simp; omega
  have HC := Lib.hid (And.intro hc (And.intro hl0 hk))
  have hn0 : ¬ n = 0 := by omega
  have hz : ((n : Int) == 0) = false := by simp; omega
  have hkk : (k == 1) = false := by simp; omega
  obtain ⟨m1, hm1⟩ : ∃ m1 : Nat, n = m1 + 1 := ⟨n - 1, by omega⟩
  have HM := Lib.hid (And.intro hm1 (show (n : Int) - 1 = (m1 : Int) by omega))
  have hb1 : (1 : Int) ≤ (n : Int) ∧ (n : Int) ≤ 12 := by omega
  have HNE := Lib.hid (show l ≠ [] from fun e => by subst e; simp at hn; omega)
  clear hc hl0 hn0 hm1 hk
  go_enter Tryz.func103, Tryz.ntmps103
  go_upto_region 1 with fail
  generalize ((w.alloc (.cells (lsA l) 163)).alloc (.cells (opC ⟨k, m, a, b, c, v⟩) 80)).alloc (.cells lsZ 163) = W at *
  obtain ⟨g, hg⟩ : ∃ g, w.heap.size = g := ⟨_, rfl⟩
  have HG := Lib.hid (show w.heap.size ≤ g by omega)
  rw [hg] at HA ⊢
  clear hg
  have HP := Lib.hid (stolen_any l HLL.out HNE.out)
  have HL3 := Lib.hid (show (l.tail).length ≤ 12 by have := HLL.out; simp; omega)
  have x4 : W.cell? ⟨g + 1, 4, none⟩ = some (.int .i64 c) := HA.out.x.at_ 4
  have x0 : W.cell? ⟨g + 1, 0, none⟩ = some (.int .i64 k) := HA.out.x.at_ 0
  have y0 := HA.out.l.at_ 0
  rw [lsA_0, HN.out] at y0
  go_upto_region 14 with fail
  clear x4 x0 y0 k0 k3 k2 k4 hz hkk
  have HD := Lib.hid (HA.out.below (u' := W.drew) (below_drew (Below.refl _ _)))
  clear HA
  refine wp_region_held_drew (S := AfL w l ⟨k, m, a, b, c, v⟩ g) (by kernel_rfl) HD.out.low (fun _ => ?_)
  change wpAnyH _ _ _ _ _ 10 #[false, false, false, false, false, false, false, false, false, false] _ (World.drew _)
  generalize W.drew = V at *
  refine wpAnyH_take (i := 0) (v := .agg (lsA l)) rfl (by kernel_rfl) (by kernel_rfl) (by kernel_rfl) (fun _ _ _ h => h) (yields_row (by kernel_rfl) _ _ rfl g (by kernel_rfl) 163 (lsA l) (fun u hu => hu.l) _ Tryz.underlying163 rfl (info_list _ (hidLs HLL.out))) HD.out.low ?_
  simp only [List.getElem_toArray, List.getElem_cons_succ, List.getElem_cons_zero, Act.put, List.setIfInBounds_toArray, List.set_cons_zero, List.set_cons_succ]
  refine wpAnyH_take (i := 2) (v := .pointer (some ⟨g, 1, none⟩)) rfl (by kernel_rfl) (by kernel_rfl) (by kernel_rfl) (fun _ _ _ h => h) (Or.inl ⟨by rfl, fun u hu => by (go_simp)⟩) HD.out.low ?_
  simp only [List.getElem_toArray, List.getElem_cons_succ, List.getElem_cons_zero, Act.put, List.setIfInBounds_toArray, List.set_cons_zero, List.set_cons_succ]
  refine wpAnyH_take (i := 3) (v := .pointer (some ⟨g, 1, none⟩)) rfl (by kernel_rfl) (by kernel_rfl) (by kernel_rfl) (fun _ _ _ h => h) (Or.inl ⟨by rfl, fun u hu => by (go_simp)⟩) HD.out.low ?_
  simp only [List.getElem_toArray, List.getElem_cons_succ, List.getElem_cons_zero, Act.put, List.setIfInBounds_toArray, List.set_cons_zero, List.set_cons_succ]
  refine wpAnyH_take (i := 4) (v := .int .i64 (l.getD 0 0)) rfl (by kernel_rfl) (by kernel_rfl) (by kernel_rfl) (fun _ _ _ h => h) (Or.inl ⟨by rfl, fun u hu => by (have z := hu.l.at_ (1 + 0); rw [lsA_at HLL.out (by omega)] at z; go_simp)⟩) HD.out.low ?_
  simp only [List.getElem_toArray, List.getElem_cons_succ, List.getElem_cons_zero, Act.put, List.setIfInBounds_toArray, List.set_cons_zero, List.set_cons_succ]
  refine wpAnyH_take (i := 5) (v := .pointer (some ⟨g + 1, 5, none⟩)) rfl (by kernel_rfl) (by kernel_rfl) (by kernel_rfl) (fun _ _ _ h => h) (Or.inl ⟨by rfl, fun u hu => by (go_simp)⟩) HD.out.low ?_
  simp only [List.getElem_toArray, List.getElem_cons_succ, List.getElem_cons_zero, Act.put, List.setIfInBounds_toArray, List.set_cons_zero, List.set_cons_succ]
  refine wpAnyH_take (i := 6) (v := .int .i64 v) rfl (by kernel_rfl) (by kernel_rfl) (by kernel_rfl) (fun _ _ _ h => h) (Or.inl ⟨by rfl, fun u hu => by (have z : u.cell? ⟨g + 1, 5, none⟩ = some (.int .i64 v) := hu.x.at_ 5; go_simp)⟩) HD.out.low ?_
  simp only [List.getElem_toArray, List.getElem_cons_succ, List.getElem_cons_zero, Act.put, List.setIfInBounds_toArray, List.set_cons_zero, List.set_cons_succ]
  refine wpAnyH_take (i := 7) (v := .bool (l.getD 0 0 == v)) rfl (by kernel_rfl) (by kernel_rfl) (by kernel_rfl) (fun _ _ _ h => h) (Or.inl ⟨by rfl, fun u hu => by (go_simp)⟩) HD.out.low ?_
  simp only [List.getElem_toArray, List.getElem_cons_succ, List.getElem_cons_zero, Act.put, List.setIfInBounds_toArray, List.set_cons_zero, List.set_cons_succ]
  refine wpAnyH_ready (rs := [1]) (by kernel_rfl) (by simp) ?_
  refine AllReadyH.cons rfl (fun K hK => ?_) AllReadyH.nil
  go_simp
  go_at_call 120
  (with_reducible refine (HP.out _).mono ?_)
  rintro e u1 ⟨rfl, b⟩
  have HE := Lib.hid (HD.out.below b)
  clear b HD
  refine hK.out _ _ HE.out.low (fun _ => ?_)
  clear hK K
  simp only [List.setIfInBounds_toArray, List.set_cons_zero, List.set_cons_succ]
  have hW := HE.out
  refine wpAnyH_ready (rs := [8]) (by kernel_rfl) (by simp) ?_
  refine AllReadyH.cons rfl (fun K hK => ?_) AllReadyH.nil
  refine wp_store_row 163 (.tmp 6) (.tmp 55) rfl (g + 1 + 1) (lsA (l.tail)) rfl rfl 163 lsZ hW.r (info_list _ (hidLs HL3.out)) (by rw [(hidLs HL3.out)]; rfl) lsA_one ?_
  refine hK.out _ _ (hW.sto _) (fun _ => ?_)
  clear hK K
  simp only [List.setIfInBounds_toArray, List.set_cons_zero, List.set_cons_succ]
  refine wpAnyH_ready (rs := [9]) (by kernel_rfl) (by simp) ?_
  refine AllReadyH.cons rfl (fun K hK => ?_) AllReadyH.nil
  go_simp
  refine hK.out _ _ (hW.sto _) (fun _ => ?_)
  clear hK K
  simp only [List.setIfInBounds_toArray, List.set_cons_zero, List.set_cons_succ]
  refine wpAnyH_done (by kernel_rfl) ?_ _
  go_wp2_with fail
  refine bodyPost_ret (results_row_tmpA (P := Tryz.prog) Tryz.results103 _ _ (g + 1 + 1) 163 _ (0, 0) _ rfl (hW.r.setRow _) Tryz.underlying163 rfl (info_list _ (hidLs HL3.out))) rfl ?_
  have e : appO cap ⟨k, m, a, b, c, v⟩ l = if l.getD 0 0 = v then some (l.tail) else none := by
    obtain ⟨hc0, hl1, hk0⟩ := HC.out
    replace hc0 : c = 1 := hc0
    replace hk0 : ¬ k = 1 := hk0
    have hnn := HN.out
    have hmm := HM.out.1
    unfold appO
    simp only [hc0]
    rw [if_neg (by decide), if_neg (by decide), if_neg (by decide), if_neg (by decide), if_neg hl1, if_neg hk0]
    rw [show l.headD 0 = l.getD 0 0 by cases l <;> rfl]
  refine ⟨l.tail, (l.getD 0 0 == v), rfl, HL3.out, fun hb => ?_, fun hb => ?_, below_rowg hW.b (by have := HG.out; omega) _⟩
  · rw [e, if_pos (by simpa using hb)]
  · rw [e, if_neg (by simpa using hb)]
theorem after_any (l : List Int) (x : OpR) (cap : Int) (w : World) (hl : l.length < 12) (hf : Formed x) : Calls Tryz.prog 103 #[.agg (lsA l), .agg (opC x), .int .i64 cap] w (AfterD cap x l w) := by
  by_cases h0 : x.c = 0
  · exact after_0 l x cap w hl h0
  by_cases h3 : x.c = 3
  · exact after_3 l x cap w (by omega) h3
  by_cases h2 : x.c = 2
  · exact after_2 l x cap w (by omega) h2
  by_cases h4 : x.c = 4
  · exact after_4 l x cap w (by omega) h4
  have h1 : x.c = 1 := by
    rcases hf with ⟨_, h⟩ | ⟨_, h⟩ | ⟨_, h⟩ <;> omega
  by_cases hz : l.length = 0
  · exact after_1n l x cap w (by omega) h1 hz
  by_cases hk : x.k = 1
  · exact after_1p l x cap w (by omega) h1 hz hk
  · exact after_1s l x cap w (by omega) h1 hz hk
end Go.Proofs.YtjehiekmlbeaeaaGreat
