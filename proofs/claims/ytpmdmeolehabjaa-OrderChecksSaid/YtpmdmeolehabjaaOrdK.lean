/-
  The law OrderChecks: narrow.
-/
import Derived.Test.YtpmdmeolehabjaaOrdJ
import Derived.Test.YtpmdmeolehabjaaKeepN
import Derived.Test.YtpmdmeolehabjaaEvOwn
namespace Go.Proofs.Ytpmdmeolehabjaa
open Go Go.RowKit
set_option linter.unusedSimpArgs false
set_option linter.unusedVariables false

abbrev evL (e : Ev) : List Value := [.int .i64 e.kd, .int .i64 e.wk, .int .i64 e.tk, .int .i64 e.ot, .int .i64 e.lv]
theorem cellsV_flat : ∀ l : List Ev, cellsV l = (l.map evL).flatten
  | [] => rfl
  | e :: r => by simp [cellsV, cellsV_flat r]
theorem OwnG.toE {w : World} {B : Nat} {v : Value} {l : List Ev} (h : OwnG w B 39 5 v (l.map evL)) : OwnE w B v l := by
  have := h.2
  rw [List.length_map, ← cellsV_flat] at this
  exact this
/-- What narrow returns. -/
def NarR (L : Nat) (w : World) (e : Ending) (w' : World) : Prop := ∃ v es, e = .returned v ∧ OwnE w' w.heap.size v es ∧ es.length = L ∧ Below w.heap.size w w'
theorem four_kinds {w : World} {g q : Nat} (h : Blk w g 3 #[.int .i64 1, .int .i64 13, .int .i64 2, .int .i64 1]) (hq : q < 4) : ∃ kd : Int, w.cell? ⟨g, q, none⟩ = some (.int .i64 kd) := by
  match q, hq with
  | 0, _ => exact ⟨_, h.at_ 0⟩
  | 1, _ => exact ⟨_, h.at_ 1⟩
  | 2, _ => exact ⟨_, h.at_ 2⟩
  | 3, _ => exact ⟨_, h.at_ 3⟩
  | q + 4, hq => omega
theorem rem_nat (y n : Nat) : (y : Int).tmod (n : Int) = ((y % n : Nat) : Int) := rfl
set_option maxHeartbeats 4000000 in
theorem narrow_any {w : World} {c : Cfg} {pa : Option Addr} {pn : Nat} (pc : Nat) {sa : Option Addr} {sn : Nat} (sc : Nat) {ra : Option Addr} {L : Nat} {zs : List Int} (rc : Nat) (h : InInts w ra L zs) (hL : L ≤ 400) :
    Calls Try.prog 9 #[cv c pa pn pc sa sn sc, .slice ra L rc] w (NarR L w) := by
  have hX := Blk.made w 25 (cc c pa pn pc sa sn sc)
  have hb := below_one w (.cells (cc c pa pn pc sa sn sc) 25)
  have HB := Lib.hid hb
  have HI := Lib.hid (h.below hb)
  have HX := Lib.hid hX
  have hs1 : w.heap.size < (w.alloc (.cells (cc c pa pn pc sa sn sc) 25)).heap.size := by simp
  clear hX hb h
  go_enter Try.func9, Try.ntmps9
  go_wp2_with fail
  generalize w.alloc (.cells (cc c pa pn pc sa sn sc) 25) = W0 at *
  go_loopw [5, 6] (fun l i wr => ∃ (k : Nat) (es : List Ev), i = .int .i64 k ∧ k ≤ L ∧ es.length = k ∧ OwnG wr W0.heap.size 39 5 l (es.map evL) ∧ Below W0.heap.size W0 wr) (fun _ i _ => L - (intOf i).toNat)
  case atStart => exact ⟨0, [], rfl, Nat.zero_le _, rfl, OwnG.nil _ _ _ _, Below.refl _ _⟩
  case round =>
    obtain ⟨k, es, rfl, hk, hes, hown, hbw⟩ := hrel
    have HE := Lib.hid hes
    have HW := Lib.hid hbw
    have HO := Lib.hid hown
    by_cases hlt : k < L
    · have HN := Lib.hid (keepnum_any (HI.out.below hbw) rc k (by omega) 1000 (by omega) (by omega))
      have i0 : (0 : Int) ≤ (k : Int) := by omega
      have i1 : (k : Int) < (L : Int) := by omega
      obtain ⟨va, vc, rfl, hvc⟩ := hown.form
      clear hes hbw hown
      go_wp2_with (with_reducible refine HN.out.mono ?_)
      rintro e w1 ⟨y, hy, rfl, nd, rfl⟩
      clear HN
      have HB1 := Lib.hid (HW.out.trans ((below_drewN wr nd).mono HW.out.size))
      have own1 := HO.out.same (w' := (wr.drewN nd).drew) (fun b _ => rfl)
      rw [show (es.map evL).length = es.length from List.length_map ..] at own1
      have HZ := Lib.hid hk
      go_upto_region 6 with fail
      have hS0 : Below W0.heap.size W0 (wr.drewN nd).drew := HB1.out.trans ((below_drew (Below.refl _ (wr.drewN nd))).mono HB1.out.size)
      have hx0 : ∀ u, Below W0.heap.size W0 u → u.cell? ⟨w.heap.size, 0, none⟩ = some (.int .i64 c.wo) := fun u hu => (hu.cell (p := ⟨w.heap.size, 0, none⟩) hs1).trans (HX.out.at_ 0)
      generalize (wr.drewN nd) = W at *
      clear HO
      have y0 : (0 : Int) ≤ (y : Int) := by omega
      have q4 : y % 4 < 4 := Nat.mod_lt _ (by omega)
      obtain ⟨q, hq⟩ : ∃ q, y % 4 = q := ⟨_, rfl⟩
      rw [hq] at q4
      refine wp_region_held_drew (S := (fun u => Below W0.heap.size W0 u)) (by kernel_rfl) hS0 (fun _ => ?_)
      change wpAnyH _ _ _ _ _ 21 #[false, false, false, false, false, false, false, false, false, false, false, false, false, false, false, false, false, false, false, false, false] _ (World.drew _)
      generalize W.drew = V at *
      have q0 : (0 : Int) ≤ (q : Int) := by omega
      have q1 : (q : Int) < 4 := by omega
      refine wpAnyH_take (i := 0) (v := .slice va es.length vc) rfl (by kernel_rfl) (by kernel_rfl) (by kernel_rfl) (fun _ _ _ h => h) (Or.inl ⟨by rfl, fun u hu => by (go_simp)⟩) hS0 ?_
      simp only [List.getElem_toArray, List.getElem_cons_succ, List.getElem_cons_zero, Act.put, List.setIfInBounds_toArray, List.set_cons_zero, List.set_cons_succ]
      refine wpAnyH_take (i := 2) (v := .int .i64 y) rfl (by kernel_rfl) (by kernel_rfl) (by kernel_rfl) (fun _ _ _ h => h) (Or.inl ⟨by rfl, fun u hu => by (go_simp)⟩) hS0 ?_
      simp only [List.getElem_toArray, List.getElem_cons_succ, List.getElem_cons_zero, Act.put, List.setIfInBounds_toArray, List.set_cons_zero, List.set_cons_succ]
      refine wpAnyH_take (i := 3) (v := .int .i64 (q : Int)) rfl (by kernel_rfl) (by kernel_rfl) (by kernel_rfl) (fun _ _ _ h => h) (Or.inl ⟨by rfl, fun u hu => by (go_simp <;> first | (exact Int.tmod_eq_emod_of_nonneg (by omega)) | (exact IntWalk.i64_in _ (by omega)) | (exact Int.tdiv_eq_ediv_of_nonneg (by omega)) | (rw [Int.tmod_eq_emod_of_nonneg (by omega)]; omega))⟩) hS0 ?_
      simp only [List.getElem_toArray, List.getElem_cons_succ, List.getElem_cons_zero, Act.put, List.setIfInBounds_toArray, List.set_cons_zero, List.set_cons_succ]
      refine wpAnyH_take (i := 6) (v := .pointer (some ⟨w.heap.size, 0, none⟩)) rfl (by kernel_rfl) (by kernel_rfl) (by kernel_rfl) (fun _ _ _ h => h) (Or.inl ⟨by rfl, fun u hu => by (go_simp)⟩) hS0 ?_
      simp only [List.getElem_toArray, List.getElem_cons_succ, List.getElem_cons_zero, Act.put, List.setIfInBounds_toArray, List.set_cons_zero, List.set_cons_succ]
      refine wpAnyH_take (i := 7) (v := .int .i64 c.wo) rfl (by kernel_rfl) (by kernel_rfl) (by kernel_rfl) (fun _ _ _ h => h) (Or.inl ⟨by rfl, fun u hu => by (have z0 := hx0 u hu; go_simp)⟩) hS0 ?_
      simp only [List.getElem_toArray, List.getElem_cons_succ, List.getElem_cons_zero, Act.put, List.setIfInBounds_toArray, List.set_cons_zero, List.set_cons_succ]
      refine wpAnyH_take (i := 8) (v := .int .i64 y) rfl (by kernel_rfl) (by kernel_rfl) (by kernel_rfl) (fun _ _ _ h => h) (Or.inl ⟨by rfl, fun u hu => by (go_simp)⟩) hS0 ?_
      simp only [List.getElem_toArray, List.getElem_cons_succ, List.getElem_cons_zero, Act.put, List.setIfInBounds_toArray, List.set_cons_zero, List.set_cons_succ]
      refine wpAnyH_take (i := 9) (v := .int .i64 ((y / 4 : Nat) : Int)) rfl (by kernel_rfl) (by kernel_rfl) (by kernel_rfl) (fun _ _ _ h => h) (Or.inl ⟨by rfl, fun u hu => by (go_simp <;> first | (exact Int.tmod_eq_emod_of_nonneg (by omega)) | (exact IntWalk.i64_in _ (by omega)) | (exact Int.tdiv_eq_ediv_of_nonneg (by omega)) | (rw [Int.tmod_eq_emod_of_nonneg (by omega)]; omega))⟩) hS0 ?_
      simp only [List.getElem_toArray, List.getElem_cons_succ, List.getElem_cons_zero, Act.put, List.setIfInBounds_toArray, List.set_cons_zero, List.set_cons_succ]
      refine wpAnyH_take (i := 10) (v := .int .i64 ((y / 4 % 5 : Nat) : Int)) rfl (by kernel_rfl) (by kernel_rfl) (by kernel_rfl) (fun _ _ _ h => h) (Or.inl ⟨by rfl, fun u hu => by (go_simp <;> first | (exact Int.tmod_eq_emod_of_nonneg (by omega)) | (exact IntWalk.i64_in _ (by omega)) | (exact Int.tdiv_eq_ediv_of_nonneg (by omega)) | (rw [Int.tmod_eq_emod_of_nonneg (by omega)]; omega))⟩) hS0 ?_
      simp only [List.getElem_toArray, List.getElem_cons_succ, List.getElem_cons_zero, Act.put, List.setIfInBounds_toArray, List.set_cons_zero, List.set_cons_succ]
      refine wpAnyH_take (i := 11) (v := .int .i64 y) rfl (by kernel_rfl) (by kernel_rfl) (by kernel_rfl) (fun _ _ _ h => h) (Or.inl ⟨by rfl, fun u hu => by (go_simp)⟩) hS0 ?_
      simp only [List.getElem_toArray, List.getElem_cons_succ, List.getElem_cons_zero, Act.put, List.setIfInBounds_toArray, List.set_cons_zero, List.set_cons_succ]
      refine wpAnyH_take (i := 12) (v := .int .i64 ((y / 20 : Nat) : Int)) rfl (by kernel_rfl) (by kernel_rfl) (by kernel_rfl) (fun _ _ _ h => h) (Or.inl ⟨by rfl, fun u hu => by (go_simp <;> first | (exact Int.tmod_eq_emod_of_nonneg (by omega)) | (exact IntWalk.i64_in _ (by omega)) | (exact Int.tdiv_eq_ediv_of_nonneg (by omega)) | (rw [Int.tmod_eq_emod_of_nonneg (by omega)]; omega))⟩) hS0 ?_
      simp only [List.getElem_toArray, List.getElem_cons_succ, List.getElem_cons_zero, Act.put, List.setIfInBounds_toArray, List.set_cons_zero, List.set_cons_succ]
      refine wpAnyH_take (i := 13) (v := .int .i64 ((y / 20 % 5 : Nat) : Int)) rfl (by kernel_rfl) (by kernel_rfl) (by kernel_rfl) (fun _ _ _ h => h) (Or.inl ⟨by rfl, fun u hu => by (go_simp <;> first | (exact Int.tmod_eq_emod_of_nonneg (by omega)) | (exact IntWalk.i64_in _ (by omega)) | (exact Int.tdiv_eq_ediv_of_nonneg (by omega)) | (rw [Int.tmod_eq_emod_of_nonneg (by omega)]; omega))⟩) hS0 ?_
      simp only [List.getElem_toArray, List.getElem_cons_succ, List.getElem_cons_zero, Act.put, List.setIfInBounds_toArray, List.set_cons_zero, List.set_cons_succ]
      refine wpAnyH_take (i := 14) (v := .int .i64 y) rfl (by kernel_rfl) (by kernel_rfl) (by kernel_rfl) (fun _ _ _ h => h) (Or.inl ⟨by rfl, fun u hu => by (go_simp)⟩) hS0 ?_
      simp only [List.getElem_toArray, List.getElem_cons_succ, List.getElem_cons_zero, Act.put, List.setIfInBounds_toArray, List.set_cons_zero, List.set_cons_succ]
      refine wpAnyH_take (i := 15) (v := .int .i64 ((y / 100 : Nat) : Int)) rfl (by kernel_rfl) (by kernel_rfl) (by kernel_rfl) (fun _ _ _ h => h) (Or.inl ⟨by rfl, fun u hu => by (go_simp <;> first | (exact Int.tmod_eq_emod_of_nonneg (by omega)) | (exact IntWalk.i64_in _ (by omega)) | (exact Int.tdiv_eq_ediv_of_nonneg (by omega)) | (rw [Int.tmod_eq_emod_of_nonneg (by omega)]; omega))⟩) hS0 ?_
      simp only [List.getElem_toArray, List.getElem_cons_succ, List.getElem_cons_zero, Act.put, List.setIfInBounds_toArray, List.set_cons_zero, List.set_cons_succ]
      refine wpAnyH_take (i := 16) (v := .int .i64 ((y / 100 % 3 : Nat) : Int)) rfl (by kernel_rfl) (by kernel_rfl) (by kernel_rfl) (fun _ _ _ h => h) (Or.inl ⟨by rfl, fun u hu => by (go_simp <;> first | (exact Int.tmod_eq_emod_of_nonneg (by omega)) | (exact IntWalk.i64_in _ (by omega)) | (exact Int.tdiv_eq_ediv_of_nonneg (by omega)) | (rw [Int.tmod_eq_emod_of_nonneg (by omega)]; omega))⟩) hS0 ?_
      simp only [List.getElem_toArray, List.getElem_cons_succ, List.getElem_cons_zero, Act.put, List.setIfInBounds_toArray, List.set_cons_zero, List.set_cons_succ]
      refine wpAnyH_ready (rs := [1]) (by kernel_rfl) (by simp) ?_
      refine AllReadyH.cons rfl (fun K hK => ?_) AllReadyH.nil
      go_simp
      have hS1 : Below W0.heap.size W0 (V.alloc (.cells #[.int .i64 1, .int .i64 13, .int .i64 2, .int .i64 1] 3)) := hS0.trans ((below_one V (.cells #[.int .i64 1, .int .i64 13, .int .i64 2, .int .i64 1] 3)).mono hS0.size)
      have hB4 := Blk.made V 3 #[.int .i64 1, .int .i64 13, .int .i64 2, .int .i64 1]
      have own2 := own1.below (below_one V (.cells #[.int .i64 1, .int .i64 13, .int .i64 2, .int .i64 1] 3))
      refine hK.out _ _ hS1 (fun _ => ?_)
      clear hK K
      simp only [List.setIfInBounds_toArray, List.set_cons_zero, List.set_cons_succ]
      have hvs : V.heap.size < (V.alloc (.cells #[.int .i64 1, .int .i64 13, .int .i64 2, .int .i64 1] 3)).heap.size := by simp
      generalize V.alloc (.cells #[.int .i64 1, .int .i64 13, .int .i64 2, .int .i64 1] 3) = V1 at *
      generalize V.heap.size = g at *
      refine wpAnyH_take (i := 4) (v := .pointer (some ⟨g, q, none⟩)) rfl (by kernel_rfl) (by kernel_rfl) (by kernel_rfl) (fun _ _ _ h => h) (Or.inl ⟨by rfl, fun u hu => by (go_simp)⟩) hS1 ?_
      simp only [List.getElem_toArray, List.getElem_cons_succ, List.getElem_cons_zero, Act.put, List.setIfInBounds_toArray, List.set_cons_zero, List.set_cons_succ]
      refine wpAnyH_ready (rs := [5]) (by kernel_rfl) (by simp) ?_
      refine AllReadyH.cons rfl (fun K hK => ?_) AllReadyH.nil
      obtain ⟨kd, hkd⟩ := four_kinds hB4 q4
      go_simp
      refine hK.out _ _ hS1 (fun _ => ?_)
      clear hK K
      simp only [List.setIfInBounds_toArray, List.set_cons_zero, List.set_cons_succ]
      refine wpAnyH_take (i := 17) (v := .agg #[.int .i64 kd, .int .i64 c.wo, .int .i64 ((y / 4 % 5 : Nat) : Int), .int .i64 ((y / 20 % 5 : Nat) : Int), .int .i64 ((y / 100 % 3 : Nat) : Int)]) rfl (by kernel_rfl) (by kernel_rfl) (by kernel_rfl) (fun _ _ _ h => h) (Or.inl ⟨by rfl, fun u hu => by (go_simp)⟩) hS1 ?_
      simp only [List.getElem_toArray, List.getElem_cons_succ, List.getElem_cons_zero, Act.put, List.setIfInBounds_toArray, List.set_cons_zero, List.set_cons_succ]
      obtain ⟨tk, htk⟩ : ∃ t : Int, ((y / 4 % 5 : Nat) : Int) = t := ⟨_, rfl⟩
      obtain ⟨ot, hot⟩ : ∃ t : Int, ((y / 20 % 5 : Nat) : Int) = t := ⟨_, rfl⟩
      obtain ⟨lv, hlv⟩ : ∃ t : Int, ((y / 100 % 3 : Nat) : Int) = t := ⟨_, rfl⟩
      rw [htk, hot, hlv]
      clear htk hot hlv
      refine wpAnyH_ready (rs := [18]) (by kernel_rfl) (by simp) ?_
      refine AllReadyH.cons rfl (fun K hK => ?_) AllReadyH.nil
      go_simp
      have hS2 : Below W0.heap.size W0 (V1.alloc (.cells #[.int .i64 kd, .int .i64 c.wo, .int .i64 tk, .int .i64 ot, .int .i64 lv] 39)) := hS1.trans ((below_one V1 (.cells #[.int .i64 kd, .int .i64 c.wo, .int .i64 tk, .int .i64 ot, .int .i64 lv] 39)).mono hS1.size)
      have hB5 := Blk.made V1 39 #[.int .i64 kd, .int .i64 c.wo, .int .i64 tk, .int .i64 ot, .int .i64 lv]
      have own3 := own2.below (below_one V1 (.cells #[.int .i64 kd, .int .i64 c.wo, .int .i64 tk, .int .i64 ot, .int .i64 lv] 39))
      refine hK.out _ _ hS2 (fun _ => ?_)
      clear hK K
      simp only [List.setIfInBounds_toArray, List.set_cons_zero, List.set_cons_succ]
      generalize V1.alloc (.cells #[.int .i64 kd, .int .i64 c.wo, .int .i64 tk, .int .i64 ot, .int .i64 lv] 39) = V2 at *
      have hRL : (es.map evL).length + 1 ≤ 1000000 := by rw [List.length_map, HE.out]; omega
      refine wpAnyH_ready (rs := [19]) (by kernel_rfl) (by simp) ?_
      refine AllReadyH.cons rfl (fun K hK => ?_) AllReadyH.nil
      rw [if_pos (show Region.wanted _ _ = true by rfl)]
      refine wp_appQ info_event (by kernel_rfl) (by omega) (by omega) Try.underlying26 (.tmp 17) (.tmp 35) rfl rfl own3 rfl (q := [evL ⟨kd, c.wo, tk, ot, lv⟩]) rfl (RowsK.nil 5 |>.cons ⟨rfl, fun u hu => by simp only [List.mem_cons, List.not_mem_nil, or_false] at hu; rcases hu with rfl | rfl | rfl | rfl | rfl <;> rfl⟩) (fun ad e j u hj => by cases e; exact made_row1 hB5 j u (by simpa using hj)) (fun e => by cases e) hRL hS2.size ?_
      intro v4 W4 hown4 hg4
      have hS4 := grown_below own3 hS2 (Nat.le_refl _) hg4
      refine hK.out _ _ hS4 (fun _ => ?_)
      clear hK K
      simp only [List.setIfInBounds_toArray, List.set_cons_zero, List.set_cons_succ]
      refine wpAnyH_ready (rs := [20]) (by kernel_rfl) (by simp) ?_
      refine AllReadyH.cons rfl (fun K hK => ?_) AllReadyH.nil
      go_simp
      refine hK.out _ _ hS4 (fun _ => ?_)
      clear hK K
      simp only [List.setIfInBounds_toArray, List.set_cons_zero, List.set_cons_succ]
      refine wpAnyH_done (by kernel_rfl) ?_ _
      go_wp2_with fail
      go_roundw
      case rel => exact ⟨k + 1, es ++ [⟨kd, c.wo, tk, ot, lv⟩], by go_num, by omega, by rw [List.length_append, HE.out]; rfl, by rw [List.map_append]; exact hown4, hS4⟩
      case measure => simp [intOf]; omega
    · obtain rfl : k = L := by omega
      obtain ⟨va, vc, rfl, hvc⟩ := hown.form
      clear hbw hown
      go_wp2
      go_ret
      exact ⟨_, es, rfl, (HO.out.mono (Nat.le_of_lt hs1)).toE, HE.out, HB.out.trans (HW.out.mono (Nat.le_of_lt hs1))⟩
end Go.Proofs.Ytpmdmeolehabjaa
