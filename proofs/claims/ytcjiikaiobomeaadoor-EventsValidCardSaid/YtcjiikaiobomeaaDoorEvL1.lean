/-
  The walk of the statement EventsValid. (Written by wip/gen_evl1.py.)
-/
import Derived.Test.YtcjiikaiobomeaaDoorEvAw
import Derived.Test.YtcjiikaiobomeaaDoorEvR
import Derived.Test.YtcjiikaiobomeaaDoorSeq
namespace Go.Proofs.YtcjiikaiobomeaaDoor
open Go Go.RowKit
set_option linter.unusedSimpArgs false

structure VlS (w : World) (e : Ev) (u : World) : Prop where
  ev : Blk u w.heap.size 23 (evV e)
  bel : Below w.heap.size w u
theorem VlS.below {w u u' : World} {e : Ev} (h : VlS w e u) (hb : Below u.heap.size u u') : VlS w e u' := ⟨h.ev.below hb, h.bel.trans (hb.mono h.bel.size)⟩
set_option maxRecDepth 100000 in
set_option maxHeartbeats 4000000 in
theorem valid_law (e : Ev) (near : Bool) (w : World) (hlib : Libs w.heap.size w) : Calls Tryd.prog 3 #[.agg (evV e), .bool near] w (Gives (.bool true) w) := by
  have HLib := Lib.hid hlib
  have HS := Lib.hid (show VlS w e (w.alloc (.cells (evV e) 23)) from ⟨Blk.made w 23 (evV e), below_one w (.cells (evV e) 23)⟩)
  clear hlib
  go_enter Tryd.func3, Tryd.ntmps3
  go_upto_region 1 with fail
  generalize w.alloc (.cells (evV e) 23) = W at *
  have e0 := HS.out.ev.at_ 0
  have e1 := HS.out.ev.at_ 1
  have e2 := HS.out.ev.at_ 2
  have e3 := HS.out.ev.at_ 3
  have e4 := HS.out.ev.at_ 4
  have y0 := HS.out.ev.free 0
  have y1 := HS.out.ev.free 1
  have y2 := HS.out.ev.free 2
  have y3 := HS.out.ev.free 3
  have y4 := HS.out.ev.free 4
  cases near with
  | true =>
    go_upto_region 4 with fail
    have HS2 := Lib.hid (show VlS w ⟨e.kd.tmod 22, e.wk.tmod 300, e.tk.tmod 2, e.ot.tmod 2, e.lv.tmod 2⟩ (((((W.setCell ⟨w.heap.size, 0, none⟩ (.int .i64 (e.kd.tmod 22))).setCell ⟨w.heap.size, 1, none⟩ (.int .i64 (e.wk.tmod 300))).setCell ⟨w.heap.size, 2, none⟩ (.int .i64 (e.tk.tmod 2))).setCell ⟨w.heap.size, 3, none⟩ (.int .i64 (e.ot.tmod 2))).setCell ⟨w.heap.size, 4, none⟩ (.int .i64 (e.lv.tmod 2))) from
      ⟨by
        have hP := (((((HS.out.ev.put 0 (.int .i64 (e.kd.tmod 22))).put 1 (.int .i64 (e.wk.tmod 300))).put 2 (.int .i64 (e.tk.tmod 2))).put 3 (.int .i64 (e.ot.tmod 2))).put 4 (.int .i64 (e.lv.tmod 2)))
        simp only [List.setIfInBounds_toArray, List.set_cons_zero, List.set_cons_succ] at hP
        exact hP, ((((HS.out.bel.setCell (by simp) _).setCell (by simp) _).setCell (by simp) _).setCell (by simp) _).setCell (by simp) _⟩)
    generalize (((((W.setCell ⟨w.heap.size, 0, none⟩ (.int .i64 (e.kd.tmod 22))).setCell ⟨w.heap.size, 1, none⟩ (.int .i64 (e.wk.tmod 300))).setCell ⟨w.heap.size, 2, none⟩ (.int .i64 (e.tk.tmod 2))).setCell ⟨w.heap.size, 3, none⟩ (.int .i64 (e.ot.tmod 2))).setCell ⟨w.heap.size, 4, none⟩ (.int .i64 (e.lv.tmod 2))) = W2 at *
    clear HS e0 e1 e2 e3 e4 y0 y1 y2 y3 y4
    generalize (⟨e.kd.tmod 22, e.wk.tmod 300, e.tk.tmod 2, e.ot.tmod 2, e.lv.tmod 2⟩ : Ev) = d at *
    refine wp_region_seq (S := VlS w d) [0, 1, 2, 3, 4, 5, 6, 7, 8] (by kernel_rfl) (by kernel_rfl) (by kernel_rfl) (by kernel_rfl) (by kernel_rfl) (show VlS w d W2.drew from HS2.out.below (below_drew (Below.refl _ _))) ?_
    refine SeqS.callD 26 (.bool true) rfl (by kernel_rfl) (by kernel_rfl) (fun u hu K hK => ?_) ?_
    · go_simp
      go_at_call 5
      (with_reducible refine (awake_any ((HLib.out.on hu.bel).up hu.bel.size)).mono ?_)
      rintro en u1 ⟨rfl, b⟩
      exact hK.out _ _ (by kernel_rfl) (hu.below b)
    simp only [List.setIfInBounds_toArray, List.set_cons_zero, List.set_cons_succ]
    refine SeqS.valD (v := .bool true) 27 rfl (by kernel_rfl) (Or.inl ⟨by kernel_rfl, fun u hu => by (go_simp)⟩) ?_
    simp only [List.setIfInBounds_toArray, List.set_cons_zero, List.set_cons_succ]
    refine SeqS.valD (v := .agg (evV d)) 28 rfl (by kernel_rfl) (yields_row (by kernel_rfl) _ _ rfl w.heap.size (by kernel_rfl) 23 _ (fun u hu => hu.ev) _ Tryd.underlying23 rfl (by kernel_rfl)) ?_
    simp only [List.setIfInBounds_toArray, List.set_cons_zero, List.set_cons_succ]
    refine SeqS.callD 29 (.bool (validB d)) rfl (by kernel_rfl) (by kernel_rfl) (fun u hu K hK => ?_) ?_
    · go_simp
      go_at_call 6
      (with_reducible refine (valid_any _ _).mono ?_)
      rintro en u1 ⟨rfl, b⟩
      exact hK.out _ _ (by kernel_rfl) (hu.below b)
    simp only [List.setIfInBounds_toArray, List.set_cons_zero, List.set_cons_succ]
    refine SeqS.valD (v := .agg (evV d)) 30 rfl (by kernel_rfl) (yields_row (by kernel_rfl) _ _ rfl w.heap.size (by kernel_rfl) 23 _ (fun u hu => hu.ev) _ Tryd.underlying23 rfl (by kernel_rfl)) ?_
    simp only [List.setIfInBounds_toArray, List.set_cons_zero, List.set_cons_succ]
    refine SeqS.callD 31 (.bool (validB d)) rfl (by kernel_rfl) (by kernel_rfl) (fun u hu K hK => ?_) ?_
    · go_simp
      go_at_call 7
      (with_reducible refine (rvalid_any _ _).mono ?_)
      rintro en u1 ⟨rfl, b⟩
      exact hK.out _ _ (by kernel_rfl) (hu.below b)
    simp only [List.setIfInBounds_toArray, List.set_cons_zero, List.set_cons_succ]
    refine SeqS.valD (v := .bool true) 32 rfl (by kernel_rfl) (Or.inl ⟨by kernel_rfl, fun u hu => by (go_simp)⟩) ?_
    simp only [List.setIfInBounds_toArray, List.set_cons_zero, List.set_cons_succ]
    refine SeqS.valD (v := .bool true) 33 rfl (by kernel_rfl) (Or.inl ⟨by kernel_rfl, fun u hu => by (go_simp)⟩) ?_
    simp only [List.setIfInBounds_toArray, List.set_cons_zero, List.set_cons_succ]
    refine SeqS.valD (v := .bool true) 4 rfl (by kernel_rfl) (Or.inl ⟨by kernel_rfl, fun u hu => by (go_simp)⟩) ?_
    simp only [List.setIfInBounds_toArray, List.set_cons_zero, List.set_cons_succ]
    refine SeqS.done ?_
    intro W4 hW
    go_wp2
    go_ret
    exact ⟨rfl, hW.bel⟩
  | false =>
    go_upto_region 4 with fail
    clear e0 e1 e2 e3 e4 y0 y1 y2 y3 y4
    refine wp_region_seq (S := VlS w e) [0, 1, 2, 3, 4, 5, 6, 7, 8] (by kernel_rfl) (by kernel_rfl) (by kernel_rfl) (by kernel_rfl) (by kernel_rfl) (show VlS w e W.drew from HS.out.below (below_drew (Below.refl _ _))) ?_
    refine SeqS.callD 26 (.bool true) rfl (by kernel_rfl) (by kernel_rfl) (fun u hu K hK => ?_) ?_
    · go_simp
      go_at_call 5
      (with_reducible refine (awake_any ((HLib.out.on hu.bel).up hu.bel.size)).mono ?_)
      rintro en u1 ⟨rfl, b⟩
      exact hK.out _ _ (by kernel_rfl) (hu.below b)
    simp only [List.setIfInBounds_toArray, List.set_cons_zero, List.set_cons_succ]
    refine SeqS.valD (v := .bool true) 27 rfl (by kernel_rfl) (Or.inl ⟨by kernel_rfl, fun u hu => by (go_simp)⟩) ?_
    simp only [List.setIfInBounds_toArray, List.set_cons_zero, List.set_cons_succ]
    refine SeqS.valD (v := .agg (evV e)) 28 rfl (by kernel_rfl) (yields_row (by kernel_rfl) _ _ rfl w.heap.size (by kernel_rfl) 23 _ (fun u hu => hu.ev) _ Tryd.underlying23 rfl (by kernel_rfl)) ?_
    simp only [List.setIfInBounds_toArray, List.set_cons_zero, List.set_cons_succ]
    refine SeqS.callD 29 (.bool (validB e)) rfl (by kernel_rfl) (by kernel_rfl) (fun u hu K hK => ?_) ?_
    · go_simp
      go_at_call 6
      (with_reducible refine (valid_any _ _).mono ?_)
      rintro en u1 ⟨rfl, b⟩
      exact hK.out _ _ (by kernel_rfl) (hu.below b)
    simp only [List.setIfInBounds_toArray, List.set_cons_zero, List.set_cons_succ]
    refine SeqS.valD (v := .agg (evV e)) 30 rfl (by kernel_rfl) (yields_row (by kernel_rfl) _ _ rfl w.heap.size (by kernel_rfl) 23 _ (fun u hu => hu.ev) _ Tryd.underlying23 rfl (by kernel_rfl)) ?_
    simp only [List.setIfInBounds_toArray, List.set_cons_zero, List.set_cons_succ]
    refine SeqS.callD 31 (.bool (validB e)) rfl (by kernel_rfl) (by kernel_rfl) (fun u hu K hK => ?_) ?_
    · go_simp
      go_at_call 7
      (with_reducible refine (rvalid_any _ _).mono ?_)
      rintro en u1 ⟨rfl, b⟩
      exact hK.out _ _ (by kernel_rfl) (hu.below b)
    simp only [List.setIfInBounds_toArray, List.set_cons_zero, List.set_cons_succ]
    refine SeqS.valD (v := .bool true) 32 rfl (by kernel_rfl) (Or.inl ⟨by kernel_rfl, fun u hu => by (go_simp)⟩) ?_
    simp only [List.setIfInBounds_toArray, List.set_cons_zero, List.set_cons_succ]
    refine SeqS.valD (v := .bool true) 33 rfl (by kernel_rfl) (Or.inl ⟨by kernel_rfl, fun u hu => by (go_simp)⟩) ?_
    simp only [List.setIfInBounds_toArray, List.set_cons_zero, List.set_cons_succ]
    refine SeqS.valD (v := .bool true) 4 rfl (by kernel_rfl) (Or.inl ⟨by kernel_rfl, fun u hu => by (go_simp)⟩) ?_
    simp only [List.setIfInBounds_toArray, List.set_cons_zero, List.set_cons_succ]
    refine SeqS.done ?_
    intro W4 hW
    go_wp2
    go_ret
    exact ⟨rfl, hW.bel⟩
end Go.Proofs.YtcjiikaiobomeaaDoor
