/-
  Package event: the lines' table, a kind's line, an event's numbers, whether a line contains a field. (Written by wip/gen_eva.py.)
-/
import Derived.Test.YtcjiikaiobomeaaDoorEvMath
import Derived.Test.YtcjiikaiobomeaaDoorBel
import Derived.Deep.CutRange
import Derived.Great.BuildSlice
namespace Go.Proofs.YtcjiikaiobomeaaDoor
open Go Go.RowKit
set_option linter.unusedSimpArgs false

/-- The value of the table; of a kind's line. -/
def lineVals : List (List UInt8 × Nat) → List Value
  | [] => []
  | p :: r => .string ⟨p.1.toArray⟩ :: .int .i64 (p.2 : Int) :: lineVals r
def linesV : Array Value := (lineVals lineTab).toArray
def lineV (k : Int) : Value := .agg #[.string ⟨(wordK k).toArray⟩, .int .i64 (maskK k : Int)]

abbrev zeroL : Array Value := #[.string ⟨#[]⟩, .int .i64 0, .string ⟨#[]⟩, .int .i64 0, .string ⟨#[]⟩, .int .i64 0, .string ⟨#[]⟩, .int .i64 0, .string ⟨#[]⟩, .int .i64 0, .string ⟨#[]⟩, .int .i64 0, .string ⟨#[]⟩, .int .i64 0, .string ⟨#[]⟩, .int .i64 0, .string ⟨#[]⟩, .int .i64 0, .string ⟨#[]⟩, .int .i64 0, .string ⟨#[]⟩, .int .i64 0, .string ⟨#[]⟩, .int .i64 0, .string ⟨#[]⟩, .int .i64 0, .string ⟨#[]⟩, .int .i64 0, .string ⟨#[]⟩, .int .i64 0, .string ⟨#[]⟩, .int .i64 0, .string ⟨#[]⟩, .int .i64 0, .string ⟨#[]⟩, .int .i64 0, .string ⟨#[]⟩, .int .i64 0, .string ⟨#[]⟩, .int .i64 0]
theorem linesV_one : linesV.all (·.oneCell') = true := by kernel_rfl
set_option maxRecDepth 100000 in
set_option maxHeartbeats 2000000 in
theorem lines_any (w : World) : Calls Tryd.prog 20 #[] w fun e w' => e = .returned (.agg linesV) ∧ Below w.heap.size w w' := by
  have hB := Lib.hid (below_one w (.cells zeroL 53))
  have hR := Lib.hid (Blk.made w 53 zeroL)
  go_enter Tryd.func20, Tryd.ntmps20
  go_upto_region 1 with fail
  generalize w.alloc (.cells zeroL 53) = W at *
  refine wp_region_lit ?_
  refine wpList_buildTo rfl 38 _ rfl (some 1) rfl #[.string ⟨#[97, 99, 99, 101, 112, 116]⟩, .int .i64 15] (by kernel_rfl) ?_
  refine wpList_buildTo rfl 38 _ rfl (some 2) rfl #[.string ⟨#[114, 101, 106, 101, 99, 116]⟩, .int .i64 13] (by kernel_rfl) ?_
  refine wpList_buildTo rfl 38 _ rfl (some 3) rfl #[.string ⟨#[115, 112, 97, 119, 110]⟩, .int .i64 15] (by kernel_rfl) ?_
  refine wpList_buildTo rfl 38 _ rfl (some 4) rfl #[.string ⟨#[114, 101, 102, 117, 115, 101]⟩, .int .i64 3] (by kernel_rfl) ?_
  refine wpList_buildTo rfl 38 _ rfl (some 5) rfl #[.string ⟨#[115, 116, 97, 114, 116]⟩, .int .i64 3] (by kernel_rfl) ?_
  refine wpList_buildTo rfl 38 _ rfl (some 6) rfl #[.string ⟨#[98, 108, 111, 99, 107]⟩, .int .i64 7] (by kernel_rfl) ?_
  refine wpList_buildTo rfl 38 _ rfl (some 7) rfl #[.string ⟨#[115, 101, 116, 116, 108, 101]⟩, .int .i64 11] (by kernel_rfl) ?_
  refine wpList_buildTo rfl 38 _ rfl (some 8) rfl #[.string ⟨#[106, 111, 105, 110]⟩, .int .i64 7] (by kernel_rfl) ?_
  refine wpList_buildTo rfl 38 _ rfl (some 9) rfl #[.string ⟨#[114, 101, 115, 117, 109, 101]⟩, .int .i64 3] (by kernel_rfl) ?_
  refine wpList_buildTo rfl 38 _ rfl (some 10) rfl #[.string ⟨#[102, 105, 110, 105, 115, 104]⟩, .int .i64 3] (by kernel_rfl) ?_
  refine wpList_buildTo rfl 38 _ rfl (some 11) rfl #[.string ⟨#[98, 111, 111, 115, 116]⟩, .int .i64 11] (by kernel_rfl) ?_
  refine wpList_buildTo rfl 38 _ rfl (some 12) rfl #[.string ⟨#[97, 103, 101]⟩, .int .i64 11] (by kernel_rfl) ?_
  refine wpList_buildTo rfl 38 _ rfl (some 13) rfl #[.string ⟨#[114, 101, 109, 111, 118, 101]⟩, .int .i64 3] (by kernel_rfl) ?_
  refine wpList_buildTo rfl 38 _ rfl (some 14) rfl #[.string ⟨#[115, 116, 101, 97, 108]⟩, .int .i64 15] (by kernel_rfl) ?_
  refine wpList_buildTo rfl 38 _ rfl (some 15) rfl #[.string ⟨#[115, 107, 105, 112]⟩, .int .i64 3] (by kernel_rfl) ?_
  refine wpList_buildTo rfl 38 _ rfl (some 16) rfl #[.string ⟨#[112, 97, 114, 107]⟩, .int .i64 1] (by kernel_rfl) ?_
  refine wpList_buildTo rfl 38 _ rfl (some 17) rfl #[.string ⟨#[117, 110, 112, 97, 114, 107]⟩, .int .i64 5] (by kernel_rfl) ?_
  refine wpList_buildTo rfl 38 _ rfl (some 18) rfl #[.string ⟨#[119, 97, 107, 101]⟩, .int .i64 5] (by kernel_rfl) ?_
  refine wpList_buildTo rfl 38 _ rfl (some 19) rfl #[.string ⟨#[110, 111, 114, 111, 111, 109]⟩, .int .i64 11] (by kernel_rfl) ?_
  refine wpList_buildTo rfl 53 _ rfl (some 20) rfl linesV (by kernel_rfl) ?_
  refine wpList_store_rowTo rfl 53 (.tmp 0) (.tmp 20) rfl rfl w.heap.size linesV (by kernel_rfl) (by kernel_rfl) 53 zeroL hR.out (by kernel_rfl) (by kernel_rfl) linesV_one ?_
  refine wpList_nil ?_
  have hX : Blk (W.setRow w.heap.size linesV) w.heap.size 53 linesV := setRow_heap W w.heap.size zeroL linesV 53 (0, 0) hR.out
  have hF : Below w.heap.size w (W.setRow w.heap.size linesV) := by
    have hb := hB.out
    exact ⟨hb.os, hb.tape, hb.output, by rw [size_setRow]; exact hb.size, fun k hk => (setRow_other W w.heap.size k linesV (by omega)).trans (hb.block k hk)⟩
  go_wp2_with fail
  refine bodyPost_ret (results_cell_row (P := Tryd.prog) Tryd.results20 _ _ w.heap.size 53 _ (0, 0) _ (by kernel_rfl) hX Tryd.underlying53 rfl (by kernel_rfl)) rfl ?_
  exact ⟨rfl, hF⟩
theorem index_lit {x : Value} (v : Value) (h : ∀ W : World, (Instr.index 53 (.agg linesV) x).run Tryd.prog W = .ok v W) (W : World) : (Instr.index 53 (.agg linesV) x).run Tryd.prog W = .ok v W := h W
theorem index_lines (k : Int) (h0 : 0 ≤ k) (h1 : k < 20) (W : World) : (Instr.index 53 (.agg linesV) (.int .i64 k)).run Tryd.prog W = .ok (lineV k) W := by
  have h : k = 0 ∨ k = 1 ∨ k = 2 ∨ k = 3 ∨ k = 4 ∨ k = 5 ∨ k = 6 ∨ k = 7 ∨ k = 8 ∨ k = 9 ∨ k = 10 ∨ k = 11 ∨ k = 12 ∨ k = 13 ∨ k = 14 ∨ k = 15 ∨ k = 16 ∨ k = 17 ∨ k = 18 ∨ k = 19 := by omega
  rcases h with rfl | rfl | rfl | rfl | rfl | rfl | rfl | rfl | rfl | rfl | rfl | rfl | rfl | rfl | rfl | rfl | rfl | rfl | rfl | rfl <;> exact index_lit _ (fun W => by kernel_rfl) W
abbrev zline : Array Value := #[.string ⟨#[]⟩, .int .i64 0]
theorem lineV_out {k : Int} (h : k < 0 ∨ 20 ≤ k) : lineV k = .agg zline := by
  have e : kindN k = 0 := by unfold kindN; rw [if_neg (by omega)]
  unfold lineV wordK maskK
  rw [e]
  rfl
set_option maxHeartbeats 2000000 in
theorem lineOf_out {k : Int} (h : k < 0 ∨ 20 ≤ k) (w : World) : Calls Tryd.prog 11 #[.int .i64 k] w fun e w' => e = .returned (lineV k) ∧ Below w.heap.size w w' := by
  rw [lineV_out h]
  have hB := Lib.hid (below_one w (.cells zline 38))
  have hR := Lib.hid (Blk.made w 38 zline)
  have r0 := hR.out.at_ 0
  have r1 := hR.out.at_ 1
  have f0 := hR.out.free 0
  have f1 := hR.out.free 1
  by_cases h1 : k < 0
  · go_enter Tryd.func11, Tryd.ntmps11
    go_upto_region 1 with fail
    generalize w.alloc (.cells zline 38) = W at *
    go_wp2_with fail
    have hP := ((hR.out.put 0 (.string ⟨#[]⟩)).put 1 (.int .i64 0))
    simp only [List.setIfInBounds_toArray, List.set_cons_zero, List.set_cons_succ] at hP
    refine bodyPost_ret (results_cell_row (P := Tryd.prog) Tryd.results11 _ _ w.heap.size 38 _ (0, 0) _ rfl hP Tryd.underlying38 rfl (by kernel_rfl)) rfl ?_
    exact ⟨rfl, (hB.out.setCell (by simp) _).setCell (by simp) _⟩
  · have h2 : 20 ≤ k := by omega
    clear h
    go_enter Tryd.func11, Tryd.ntmps11
    go_upto_region 1 with fail
    generalize w.alloc (.cells zline 38) = W at *
    go_wp2_with fail
    have hP := ((hR.out.put 0 (.string ⟨#[]⟩)).put 1 (.int .i64 0))
    simp only [List.setIfInBounds_toArray, List.set_cons_zero, List.set_cons_succ] at hP
    refine bodyPost_ret (results_cell_row (P := Tryd.prog) Tryd.results11 _ _ w.heap.size 38 _ (0, 0) _ rfl hP Tryd.underlying38 rfl (by kernel_rfl)) rfl ?_
    exact ⟨rfl, (hB.out.setCell (by simp) _).setCell (by simp) _⟩
set_option maxHeartbeats 2000000 in
theorem lineOf_in {k : Int} (h0 : 0 ≤ k) (h1 : k < 20) (w : World) : Calls Tryd.prog 11 #[.int .i64 k] w fun e w' => e = .returned (lineV k) ∧ Below w.heap.size w w' := by
  have hB := Lib.hid (below_one w (.cells zline 38))
  have hR := Lib.hid (Blk.made w 38 zline)
  have hi := fun (W : World) => index_lines k h0 h1 W
  unfold lineV at *
  generalize wordK k = wd at *
  generalize (maskK k : Int) = mk at *
  have h2 : ¬ k < 0 := by omega
  have h3 : ¬ 20 ≤ k := by omega
  go_enter Tryd.func11, Tryd.ntmps11
  go_upto_region 1 with fail
  generalize w.alloc (.cells zline 38) = W at *
  go_wp2_with fail
  (with_reducible refine (lines_any _).mono ?_)
  rintro e W1 ⟨rfl, hb⟩
  have hR1 := Lib.hid (hR.out.of_same (hb.block _ hR.out.lt))
  have hB1 := Lib.hid (hB.out.trans (hb.mono hB.out.size))
  have r0 := hR1.out.at_ 0
  have r1 := hR1.out.at_ 1
  have f0 := hR1.out.free 0
  have f1 := hR1.out.free 1
  clear hb
  generalize linesV = LV at *
  go_wp2_with fail
  have hP := ((hR1.out.put 0 (.string ⟨wd.toArray⟩)).put 1 (.int .i64 mk))
  simp only [List.setIfInBounds_toArray, List.set_cons_zero, List.set_cons_succ] at hP
  refine bodyPost_ret (results_cell_row (P := Tryd.prog) Tryd.results11 _ _ w.heap.size 38 _ (0, 0) _ rfl hP Tryd.underlying38 rfl (by kernel_rfl)) rfl ?_
  exact ⟨rfl, (hB1.out.setCell (by simp) _).setCell (by simp) _⟩
theorem lineOf_any (k : Int) (w : World) : Calls Tryd.prog 11 #[.int .i64 k] w fun e w' => e = .returned (lineV k) ∧ Below w.heap.size w w' := by
  by_cases h : k < 0 ∨ 20 ≤ k
  · exact lineOf_out h w
  · exact lineOf_in (by omega) (by omega) w
abbrev zfour : Array Value := #[.int .i64 0, .int .i64 0, .int .i64 0, .int .i64 0]
abbrev numsV (e : Ev) : Array Value := #[.int .i64 e.wk, .int .i64 e.tk, .int .i64 e.ot, .int .i64 e.lv]
set_option maxHeartbeats 2000000 in
theorem numbers_any (e : Ev) (w : World) : Calls Tryd.prog 12 #[.agg (evV e)] w fun en w' => en = .returned (.agg (numsV e)) ∧ Below w.heap.size w w' := by
  have hB := Lib.hid (((Below.refl w.heap.size w).alloc (Nat.le_refl _) (.cells (evV e) 23)).alloc (by simp) (.cells zfour 40))
  have hE := Lib.hid ((Blk.made w 23 (evV e)).of_same (Below.heap_alloc (w.alloc (.cells (evV e) 23)) (.cells zfour 40) w.heap.size (by simp)))
  have hR := Lib.hid (Blk.made (w.alloc (.cells (evV e) 23)) 40 zfour)
  have hs : (w.alloc (.cells (evV e) 23)).heap.size = w.heap.size + 1 := by simp
  have e1 := hE.out.at_ 1
  have e2 := hE.out.at_ 2
  have e3 := hE.out.at_ 3
  have e4 := hE.out.at_ 4
  rw [hs] at hR
  have r0 := hR.out.at_ 0
  have r1 := hR.out.at_ 1
  have r2 := hR.out.at_ 2
  have r3 := hR.out.at_ 3
  have f0 := hR.out.free 0
  have f1 := hR.out.free 1
  have f2 := hR.out.free 2
  have f3 := hR.out.free 3
  clear hs
  go_enter Tryd.func12, Tryd.ntmps12
  go_upto_region 1 with fail
  generalize (w.alloc (.cells (evV e) 23)).alloc (.cells zfour 40) = W at *
  go_wp2_with fail
  have hP := ((((hR.out.put 0 (.int .i64 e.wk)).put 1 (.int .i64 e.tk)).put 2 (.int .i64 e.ot)).put 3 (.int .i64 e.lv))
  simp only [List.setIfInBounds_toArray, List.set_cons_zero, List.set_cons_succ] at hP
  refine bodyPost_ret (results_cell_row (P := Tryd.prog) Tryd.results12 _ _ (w.heap.size + 1) 40 _ (0, 0) _ rfl hP Tryd.underlying40 rfl (by kernel_rfl)) rfl ?_
  exact ⟨rfl, (((hB.out.setCell (by simp) _).setCell (by simp) _).setCell (by simp) _).setCell (by simp) _⟩
theorem shift_bits : ∀ m : Nat, m < 16 → ∀ i : Nat, i < 4 → (bits .and .i64 ((m : Int) / 2 ^ i) 1 == 1) = hasF m i := by decide
set_option maxHeartbeats 2000000 in
theorem contains_any (wd : List UInt8) (m i : Nat) (hm : m < 16) (hi : i < 4) (w : World) : Calls Tryd.prog 13 #[.agg #[.string ⟨wd.toArray⟩, .int .i64 (m : Int)], .int .i64 (i : Int)] w fun e w' => e = .returned (.bool (hasF m i)) ∧ Below w.heap.size w w' := by
  have hB := Lib.hid (below_one w (.cells #[.string ⟨wd.toArray⟩, .int .i64 (m : Int)] 38))
  have hE := Lib.hid (Blk.made w 38 #[.string ⟨wd.toArray⟩, .int .i64 (m : Int)])
  have e1 := hE.out.at_ 1
  go_enter Tryd.func13, Tryd.ntmps13
  go_upto_region 1 with fail
  generalize (w.alloc (.cells #[.string ⟨wd.toArray⟩, .int .i64 (m : Int)] 38)) = W at *
  go_wp2_with fail
  go_ret
  exact ⟨congrArg (fun b => Ending.returned (.bool b)) (shift_bits m hm i hi), hB.out⟩
end Go.Proofs.YtcjiikaiobomeaaDoor
