/-
  The reference's enter, for a frame that runs no machine. (Written by wip/gen_step.py.)
-/
import Derived.Test.YtllllbepnnpeeaaGreatMgAP
namespace Go.Proofs.YtllllbepnnpeeaaGreat
open Go Go.RowKit
set_option linter.unusedSimpArgs false

/-- The cells of the zero frame. -/
abbrev zfc : Array Value := #[.int .i64 0, .int .i64 0, .int .i64 0, .int .i64 0, .int .i64 0, .int .i64 0, .int .i64 0, .int .i64 0, .int .i64 0, .int .i64 0, .int .i64 0, .int .i64 0, .int .i64 0, .int .u64 0, .int .u64 0, .int .u64 0, .int .u64 0, .slice none 0 0]
/-- Frames that run no machine. -/
def leafK (k : Int) : Prop := (k == 5) = false ∧ (k == 6) = false ∧ (k == 15) = false ∧ (k == 17) = false ∧ (k == 18) = false ∧ (k == 22) = false ∧ (k == 23) = false ∧ (k == 24) = false ∧ (k == 25) = false ∧ (k == 26) = false
theorem Blk.put18 {w : World} {g : Nat} {t : TypeId} (h : Blk w g t zfc) : Blk ((((((((((((((((((w.setCell ⟨g, 0, none⟩ (.int .i64 0)).setCell ⟨g, 1, none⟩ (.int .i64 0)).setCell ⟨g, 2, none⟩ (.int .i64 0)).setCell ⟨g, 3, none⟩ (.int .i64 0)).setCell ⟨g, 4, none⟩ (.int .i64 0)).setCell ⟨g, 5, none⟩ (.int .i64 0)).setCell ⟨g, 6, none⟩ (.int .i64 0)).setCell ⟨g, 7, none⟩ (.int .i64 0)).setCell ⟨g, 8, none⟩ (.int .i64 0)).setCell ⟨g, 9, none⟩ (.int .i64 0)).setCell ⟨g, 10, none⟩ (.int .i64 0)).setCell ⟨g, 11, none⟩ (.int .i64 0)).setCell ⟨g, 12, none⟩ (.int .i64 0)).setCell ⟨g, 13, none⟩ (.int .u64 0)).setCell ⟨g, 14, none⟩ (.int .u64 0)).setCell ⟨g, 15, none⟩ (.int .u64 0)).setCell ⟨g, 16, none⟩ (.int .u64 0)).setCell ⟨g, 17, none⟩ (.slice none 0 0)) g t zfc := by
  have := ((((((((((((((((((h.put 0 (.int .i64 0)).put 1 (.int .i64 0)).put 2 (.int .i64 0)).put 3 (.int .i64 0)).put 4 (.int .i64 0)).put 5 (.int .i64 0)).put 6 (.int .i64 0)).put 7 (.int .i64 0)).put 8 (.int .i64 0)).put 9 (.int .i64 0)).put 10 (.int .i64 0)).put 11 (.int .i64 0)).put 12 (.int .i64 0)).put 13 (.int .u64 0)).put 14 (.int .u64 0)).put 15 (.int .u64 0)).put 16 (.int .u64 0)).put 17 (.slice none 0 0))
  simpa only [List.setIfInBounds_toArray, List.set_cons_zero, List.set_cons_succ] using this
theorem fr18 (w : World) (g : Nat) : Fr [g] w ((((((((((((((((((w.setCell ⟨g, 0, none⟩ (.int .i64 0)).setCell ⟨g, 1, none⟩ (.int .i64 0)).setCell ⟨g, 2, none⟩ (.int .i64 0)).setCell ⟨g, 3, none⟩ (.int .i64 0)).setCell ⟨g, 4, none⟩ (.int .i64 0)).setCell ⟨g, 5, none⟩ (.int .i64 0)).setCell ⟨g, 6, none⟩ (.int .i64 0)).setCell ⟨g, 7, none⟩ (.int .i64 0)).setCell ⟨g, 8, none⟩ (.int .i64 0)).setCell ⟨g, 9, none⟩ (.int .i64 0)).setCell ⟨g, 10, none⟩ (.int .i64 0)).setCell ⟨g, 11, none⟩ (.int .i64 0)).setCell ⟨g, 12, none⟩ (.int .i64 0)).setCell ⟨g, 13, none⟩ (.int .u64 0)).setCell ⟨g, 14, none⟩ (.int .u64 0)).setCell ⟨g, 15, none⟩ (.int .u64 0)).setCell ⟨g, 16, none⟩ (.int .u64 0)).setCell ⟨g, 17, none⟩ (.slice none 0 0)) :=
  (((((((((((((((((((Fr.refl [g] w).setCell (.inl (List.mem_singleton.2 rfl)) _).setCell (.inl (List.mem_singleton.2 rfl)) _).setCell (.inl (List.mem_singleton.2 rfl)) _).setCell (.inl (List.mem_singleton.2 rfl)) _).setCell (.inl (List.mem_singleton.2 rfl)) _).setCell (.inl (List.mem_singleton.2 rfl)) _).setCell (.inl (List.mem_singleton.2 rfl)) _).setCell (.inl (List.mem_singleton.2 rfl)) _).setCell (.inl (List.mem_singleton.2 rfl)) _).setCell (.inl (List.mem_singleton.2 rfl)) _).setCell (.inl (List.mem_singleton.2 rfl)) _).setCell (.inl (List.mem_singleton.2 rfl)) _).setCell (.inl (List.mem_singleton.2 rfl)) _).setCell (.inl (List.mem_singleton.2 rfl)) _).setCell (.inl (List.mem_singleton.2 rfl)) _).setCell (.inl (List.mem_singleton.2 rfl)) _).setCell (.inl (List.mem_singleton.2 rfl)) _).setCell (.inl (List.mem_singleton.2 rfl)) _)
set_option maxRecDepth 100000 in
set_option maxHeartbeats 4000000 in
theorem enter_leaf {w : World} {p g o : Nat} {pre post : List Value} {f : Fra} (hf : FrameP w g o pre post f) (hk : leafK f.kd) :
    Calls Tryz.prog 71 #[.pointer (some ⟨p, 0, none⟩), .pointer (some ⟨g, o, none⟩)] w fun e w' => e = .returned (.tuple #[.agg zfc, .bool false]) ∧ Below w.heap.size w w' := by
  have hB := below_one w (.cells zfc 55)
  have hR := Blk.made w 55 zfc
  have HB := Lib.hid hB
  have HR := Lib.hid hR
  have c0 : (w.alloc (.cells zfc 55)).cell? ⟨g, o, none⟩ = some (.int .i64 f.kd) := (hf.below hB).at_ 0 (by omega)
  obtain ⟨k5, k6, k15, k17, k18, k22, k23, k24, k25, k26⟩ := hk

  have z0 := hR.at_ 0
  have y0 := hR.free 0
  have z1 := hR.at_ 1
  have y1 := hR.free 1
  have z2 := hR.at_ 2
  have y2 := hR.free 2
  have z3 := hR.at_ 3
  have y3 := hR.free 3
  have z4 := hR.at_ 4
  have y4 := hR.free 4
  have z5 := hR.at_ 5
  have y5 := hR.free 5
  have z6 := hR.at_ 6
  have y6 := hR.free 6
  have z7 := hR.at_ 7
  have y7 := hR.free 7
  have z8 := hR.at_ 8
  have y8 := hR.free 8
  have z9 := hR.at_ 9
  have y9 := hR.free 9
  have z10 := hR.at_ 10
  have y10 := hR.free 10
  have z11 := hR.at_ 11
  have y11 := hR.free 11
  have z12 := hR.at_ 12
  have y12 := hR.free 12
  have z13 := hR.at_ 13
  have y13 := hR.free 13
  have z14 := hR.at_ 14
  have y14 := hR.free 14
  have z15 := hR.at_ 15
  have y15 := hR.free 15
  have z16 := hR.at_ 16
  have y16 := hR.free 16
  have z17 := hR.at_ 17
  have y17 := hR.free 17
  clear hf hB hR
  go_enter Tryz.func71, Tryz.ntmps71
  go_upto_region 1 with fail
  generalize w.alloc (.cells zfc 55) = W at *
  go_wp2
  refine bodyPost_ret (results_cell_tmp (P := Tryz.prog) Tryz.results71 _ _ w.heap.size 55 _ (0, 0) _ _ rfl rfl (HR.out.put18) Tryz.underlying55 rfl (by kernel_rfl)) rfl ?_
  exact ⟨rfl, fr_below ((Fr.old HB.out : Fr [] w W).drop (fr18 W w.heap.size) (fun x hx => by simp at hx; omega))⟩
end Go.Proofs.YtllllbepnnpeeaaGreat
