/-
  The reference's enter, for a frame that runs no machine. (Written by wip/gen_step.py.)
  The reference's leaf, for the kinds of frames that need no configuration. (Written by wip/gen_leaf8.py.)
-/
import Derived.Test.YtheimjcgpbmecaaGreatMgAF
import Derived.Test.YtheimjcgpbmecaaGreatSteal8
namespace Go.Proofs.YtheimjcgpbmecaaGreat
open Go Go.RowKit
set_option linter.unusedSimpArgs false

/-- The cells of the zero frame. -/
abbrev zfc : Array Value := #[.int .i64 0, .int .i64 0, .int .i64 0, .int .i64 0, .int .i64 0, .int .i64 0, .int .i64 0, .int .i64 0, .int .i64 0, .int .i64 0, .int .i64 0, .int .i64 0, .int .i64 0, .int .u64 0, .int .u64 0, .int .u64 0, .int .u64 0, .slice none 0 0]
/-- Frames that run no machine. -/
def leafK (k : Int) : Prop := (k == 5) = false ∧ (k == 6) = false ∧ (k == 15) = false ∧ (k == 17) = false ∧ (k == 18) = false ∧ (k == 22) = false ∧ (k == 23) = false ∧ (k == 24) = false ∧ (k == 25) = false ∧ (k == 26) = false
theorem Blk.put18 {w : World} {g : Nat} {t : TypeId} (h : Blk w g t zfc) : Blk ((((((((((((((((((w.setCell ⟨g, 0, none⟩ (.int .i64 0)).setCell ⟨g, 1, none⟩ (.int .i64 0)).setCell ⟨g, 2, none⟩ (.int .i64 0)).setCell ⟨g, 3, none⟩ (.int .i64 0)).setCell ⟨g, 4, none⟩ (.int .i64 0)).setCell ⟨g, 5, none⟩ (.int .i64 0)).setCell ⟨g, 6, none⟩ (.int .i64 0)).setCell ⟨g, 7, none⟩ (.int .i64 0)).setCell ⟨g, 8, none⟩ (.int .i64 0)).setCell ⟨g, 9, none⟩ (.int .i64 0)).setCell ⟨g, 10, none⟩ (.int .i64 0)).setCell ⟨g, 11, none⟩ (.int .i64 0)).setCell ⟨g, 12, none⟩ (.int .i64 0)).setCell ⟨g, 13, none⟩ (.int .u64 0)).setCell ⟨g, 14, none⟩ (.int .u64 0)).setCell ⟨g, 15, none⟩ (.int .u64 0)).setCell ⟨g, 16, none⟩ (.int .u64 0)).setCell ⟨g, 17, none⟩ (.slice none 0 0)) g t zfc := by
  have := ((((((((((((((((((h.put 0 (.int .i64 0)).put 1 (.int .i64 0)).put 2 (.int .i64 0)).put 3 (.int .i64 0)).put 4 (.int .i64 0)).put 5 (.int .i64 0)).put 6 (.int .i64 0)).put 7 (.int .i64 0)).put 8 (.int .i64 0)).put 9 (.int .i64 0)).put 10 (.int .i64 0)).put 11 (.int .i64 0)).put 12 (.int .i64 0)).put 13 (.int .u64 0)).put 14 (.int .u64 0)).put 15 (.int .u64 0)).put 16 (.int .u64 0)).put 17 (.slice none 0 0))
  simpa only [List.setIfInBounds_toArray, List.set_cons_zero, List.set_cons_succ] using this
theorem fr18 (w : World) (g : Nat) : Fr [g] w ((((((((((((((((((w.setCell ⟨g, 0, none⟩ (.int .i64 0)).setCell ⟨g, 1, none⟩ (.int .i64 0)).setCell ⟨g, 2, none⟩ (.int .i64 0)).setCell ⟨g, 3, none⟩ (.int .i64 0)).setCell ⟨g, 4, none⟩ (.int .i64 0)).setCell ⟨g, 5, none⟩ (.int .i64 0)).setCell ⟨g, 6, none⟩ (.int .i64 0)).setCell ⟨g, 7, none⟩ (.int .i64 0)).setCell ⟨g, 8, none⟩ (.int .i64 0)).setCell ⟨g, 9, none⟩ (.int .i64 0)).setCell ⟨g, 10, none⟩ (.int .i64 0)).setCell ⟨g, 11, none⟩ (.int .i64 0)).setCell ⟨g, 12, none⟩ (.int .i64 0)).setCell ⟨g, 13, none⟩ (.int .u64 0)).setCell ⟨g, 14, none⟩ (.int .u64 0)).setCell ⟨g, 15, none⟩ (.int .u64 0)).setCell ⟨g, 16, none⟩ (.int .u64 0)).setCell ⟨g, 17, none⟩ (.slice none 0 0)) :=
  (((((((((((((((((((Fr.refl [g] w).setCell (.inl (List.mem_singleton.2 rfl)) _).setCell (.inl (List.mem_singleton.2 rfl)) _).setCell (.inl (List.mem_singleton.2 rfl)) _).setCell (.inl (List.mem_singleton.2 rfl)) _).setCell (.inl (List.mem_singleton.2 rfl)) _).setCell (.inl (List.mem_singleton.2 rfl)) _).setCell (.inl (List.mem_singleton.2 rfl)) _).setCell (.inl (List.mem_singleton.2 rfl)) _).setCell (.inl (List.mem_singleton.2 rfl)) _).setCell (.inl (List.mem_singleton.2 rfl)) _).setCell (.inl (List.mem_singleton.2 rfl)) _).setCell (.inl (List.mem_singleton.2 rfl)) _).setCell (.inl (List.mem_singleton.2 rfl)) _).setCell (.inl (List.mem_singleton.2 rfl)) _).setCell (.inl (List.mem_singleton.2 rfl)) _).setCell (.inl (List.mem_singleton.2 rfl)) _).setCell (.inl (List.mem_singleton.2 rfl)) _).setCell (.inl (List.mem_singleton.2 rfl)) _)
set_option maxRecDepth 100000 in
set_option maxHeartbeats 4000000 in
theorem enter_leaf {w : World} {p g o : Nat} {pre post : List Value} {f : Fra} (hf : FrameP w g o pre post f) (hk : leafK f.kd) :
    Calls Tryz.prog 82 #[.pointer (some ⟨p, 0, none⟩), .pointer (some ⟨g, o, none⟩)] w fun e w' => e = .returned (.tuple #[.agg zfc, .bool false]) ∧ Below w.heap.size w w' := by
  have hB := below_one w (.cells zfc 79)
  have hR := Blk.made w 79 zfc
  have HB := Lib.hid hB
  have HR := Lib.hid hR
  have c0 : (w.alloc (.cells zfc 79)).cell? ⟨g, o, none⟩ = some (.int .i64 f.kd) := (hf.below hB).at_ 0 (by omega)
  obtain ⟨k5, k6, k15, k17, k18, k22, k23, k24, k25, k26⟩ := hk

  have z0 := hR.at_ 0
  have y0 := hR.free 0
  have z1 := hR.at_ 1
  have y1 := hR.free 1
  have z2 := hR.at_ 2
  have y2 := hR.free 2
  have z3 := hR.at_ 3
  have y3 := hR.free 3
  have z4 := hR.at_ 4
  have y4 := hR.free 4
  have z5 := hR.at_ 5
  have y5 := hR.free 5
  have z6 := hR.at_ 6
  have y6 := hR.free 6
  have z7 := hR.at_ 7
  have y7 := hR.free 7
  have z8 := hR.at_ 8
  have y8 := hR.free 8
  have z9 := hR.at_ 9
  have y9 := hR.free 9
  have z10 := hR.at_ 10
  have y10 := hR.free 10
  have z11 := hR.at_ 11
  have y11 := hR.free 11
  have z12 := hR.at_ 12
  have y12 := hR.free 12
  have z13 := hR.at_ 13
  have y13 := hR.free 13
  have z14 := hR.at_ 14
  have y14 := hR.free 14
  have z15 := hR.at_ 15
  have y15 := hR.free 15
  have z16 := hR.at_ 16
  have y16 := hR.free 16
  have z17 := hR.at_ 17
  have y17 := hR.free 17
  clear hf hB hR
  go_enter Tryz.func82, Tryz.ntmps82
  go_upto_region 1 with fail
  generalize w.alloc (.cells zfc 79) = W at *
  go_wp2
  refine bodyPost_ret (results_cell_tmp (P := Tryz.prog) Tryz.results82 _ _ w.heap.size 79 _ (0, 0) _ _ rfl rfl (HR.out.put18) Tryz.underlying79 rfl (by kernel_rfl)) rfl ?_
  exact ⟨rfl, fr_below ((Fr.old HB.out : Fr [] w W).drop (fr18 W w.heap.size) (fun x hx => by simp at hx; omega))⟩
end Go.Proofs.YtheimjcgpbmecaaGreat

namespace Go.Proofs.YtheimjcgpbmecaaGreat
open Go Go.RowKit
set_option linter.unusedSimpArgs false

section
variable {B p g o : Nat} {w : World} {pre post : List Value} {a : EnvA} {s : St} {es : List Ev} {rs : List Rec} {f : Fra}

set_option maxRecDepth 100000 in
set_option maxHeartbeats 2000000 in
theorem leaf_0 (he : EnvF B w p a s es rs) (hf : FrameP w g o pre post f) (hB : B ≤ g) (hk : f.kd = 0) (hu : 0 ≤ f.fu) (hqc : f.qc ≤ 9223372036854775807) :
    Calls Tryz.prog 83 #[.pointer (some ⟨p, 0, none⟩), .pointer (some ⟨g, o, none⟩)] w (Line B p g o pre post a (pushS s f).2.2 (pushS s f).1 es rs (pushS s f).2.1 w) := by
  have h0 := LSt.start he hf hB
  have H0 := Lib.hid h0
  have hng : g ≠ w.heap.size := by have := h0.lf; omega
  have hng1 := hng.symm
  clear he hf hB
  have c0 : (w.alloc (.cells (rcells' .none) 184)).cell? ⟨g, o, none⟩ = some (.int .i64 f.kd) := H0.out.f.at_ 0 (by omega)
  rw [hk] at c0
  go_enter Tryz.func83, Tryz.ntmps83
  go_upto_region 1 with fail
  generalize (w.alloc (.cells (rcells' .none) 184)) = W0 at *
  clear h0
  go_wp2_with fail
  (with_reducible refine (push_any H0.out.e H0.out.f H0.out.bg hu hqc).mono ?_)
  rintro e W1 hline
  obtain ⟨v1, rfl, h1⟩ := H0.out.call hline
  have H1 := Lib.hid h1
  clear c0
  clear hline h1 H0
  generalize hR : (pushS s f).2.2 = R at *
  clear hR
  have r0 := H1.out.r.at_ 0
  have q0 := H1.out.r.free 0
  have r1 := H1.out.r.at_ 1
  have q1 := H1.out.r.free 1
  have r2 := H1.out.r.at_ 2
  have q2 := H1.out.r.free 2
  go_wp2
  refine bodyPost_ret (results_cell_row (P := Tryz.prog) Tryz.results83 _ _ w.heap.size 184 _ (0, 0) _ rfl (H1.out.res R) Tryz.underlying184 rfl (by kernel_rfl)) rfl ?_
  exact H1.out.done R
set_option maxRecDepth 100000 in
set_option maxHeartbeats 2000000 in
theorem leaf_1 (he : EnvF B w p a s es rs) (hf : FrameP w g o pre post f) (hB : B ≤ g) (hk : f.kd = 1) (hqc : f.qc ≤ 9223372036854775807) :
    Calls Tryz.prog 83 #[.pointer (some ⟨p, 0, none⟩), .pointer (some ⟨g, o, none⟩)] w (Line B p g o pre post a (popS s f).2.2 (popS s f).1 es rs (popS s f).2.1 w) := by
  have h0 := LSt.start he hf hB
  have H0 := Lib.hid h0
  have hng : g ≠ w.heap.size := by have := h0.lf; omega
  have hng1 := hng.symm
  clear he hf hB
  have c0 : (w.alloc (.cells (rcells' .none) 184)).cell? ⟨g, o, none⟩ = some (.int .i64 f.kd) := H0.out.f.at_ 0 (by omega)
  rw [hk] at c0
  go_enter Tryz.func83, Tryz.ntmps83
  go_upto_region 1 with fail
  generalize (w.alloc (.cells (rcells' .none) 184)) = W0 at *
  clear h0
  go_wp2_with fail
  (with_reducible refine (pop_any H0.out.e H0.out.f H0.out.bg hqc).mono ?_)
  rintro e W1 hline
  obtain ⟨v1, rfl, h1⟩ := H0.out.call hline
  have H1 := Lib.hid h1
  clear c0
  clear hline h1 H0
  generalize hR : (popS s f).2.2 = R at *
  clear hR
  have r0 := H1.out.r.at_ 0
  have q0 := H1.out.r.free 0
  have r1 := H1.out.r.at_ 1
  have q1 := H1.out.r.free 1
  have r2 := H1.out.r.at_ 2
  have q2 := H1.out.r.free 2
  go_wp2
  refine bodyPost_ret (results_cell_row (P := Tryz.prog) Tryz.results83 _ _ w.heap.size 184 _ (0, 0) _ rfl (H1.out.res R) Tryz.underlying184 rfl (by kernel_rfl)) rfl ?_
  exact H1.out.done R
set_option maxRecDepth 100000 in
set_option maxHeartbeats 2000000 in
theorem leaf_2 (he : EnvF B w p a s es rs) (hf : FrameP w g o pre post f) (hB : B ≤ g) (hk : f.kd = 2) (hu : 0 ≤ f.fv) (hqc : f.qc ≤ 9223372036854775807) :
    Calls Tryz.prog 83 #[.pointer (some ⟨p, 0, none⟩), .pointer (some ⟨g, o, none⟩)] w (Line B p g o pre post a (stealS s f).2.2 (stealS s f).1 es rs (stealS s f).2.1 w) := by
  have h0 := LSt.start he hf hB
  have H0 := Lib.hid h0
  have hng : g ≠ w.heap.size := by have := h0.lf; omega
  have hng1 := hng.symm
  clear he hf hB
  have c0 : (w.alloc (.cells (rcells' .none) 184)).cell? ⟨g, o, none⟩ = some (.int .i64 f.kd) := H0.out.f.at_ 0 (by omega)
  rw [hk] at c0
  go_enter Tryz.func83, Tryz.ntmps83
  go_upto_region 1 with fail
  generalize (w.alloc (.cells (rcells' .none) 184)) = W0 at *
  clear h0
  go_wp2_with fail
  (with_reducible refine (steal_any H0.out.e H0.out.f H0.out.bg hu hqc).mono ?_)
  rintro e W1 hline
  obtain ⟨v1, rfl, h1⟩ := H0.out.call hline
  have H1 := Lib.hid h1
  clear c0
  clear hline h1 H0
  generalize hR : (stealS s f).2.2 = R at *
  clear hR
  have r0 := H1.out.r.at_ 0
  have q0 := H1.out.r.free 0
  have r1 := H1.out.r.at_ 1
  have q1 := H1.out.r.free 1
  have r2 := H1.out.r.at_ 2
  have q2 := H1.out.r.free 2
  go_wp2
  refine bodyPost_ret (results_cell_row (P := Tryz.prog) Tryz.results83 _ _ w.heap.size 184 _ (0, 0) _ rfl (H1.out.res R) Tryz.underlying184 rfl (by kernel_rfl)) rfl ?_
  exact H1.out.done R
set_option maxRecDepth 100000 in
set_option maxHeartbeats 2000000 in
theorem leaf_4 (he : EnvF B w p a s es rs) (hf : FrameP w g o pre post f) (hB : B ≤ g) (hk : f.kd = 4)  :
    Calls Tryz.prog 83 #[.pointer (some ⟨p, 0, none⟩), .pointer (some ⟨g, o, none⟩)] w (Line B p g o pre post a (clearS s f).2.2 (clearS s f).1 es rs (clearS s f).2.1 w) := by
  have h0 := LSt.start he hf hB
  have H0 := Lib.hid h0
  have hng : g ≠ w.heap.size := by have := h0.lf; omega
  have hng1 := hng.symm
  clear he hf hB
  have c0 : (w.alloc (.cells (rcells' .none) 184)).cell? ⟨g, o, none⟩ = some (.int .i64 f.kd) := H0.out.f.at_ 0 (by omega)
  rw [hk] at c0
  go_enter Tryz.func83, Tryz.ntmps83
  go_upto_region 1 with fail
  generalize (w.alloc (.cells (rcells' .none) 184)) = W0 at *
  clear h0
  go_wp2_with fail
  (with_reducible refine (clear_any H0.out.e H0.out.f H0.out.bg).mono ?_)
  rintro e W1 hline
  obtain ⟨v1, rfl, h1⟩ := H0.out.call hline
  have H1 := Lib.hid h1
  clear c0
  clear hline h1 H0
  generalize hR : (clearS s f).2.2 = R at *
  clear hR
  have r0 := H1.out.r.at_ 0
  have q0 := H1.out.r.free 0
  have r1 := H1.out.r.at_ 1
  have q1 := H1.out.r.free 1
  have r2 := H1.out.r.at_ 2
  have q2 := H1.out.r.free 2
  go_wp2
  refine bodyPost_ret (results_cell_row (P := Tryz.prog) Tryz.results83 _ _ w.heap.size 184 _ (0, 0) _ rfl (H1.out.res R) Tryz.underlying184 rfl (by kernel_rfl)) rfl ?_
  exact H1.out.done R
set_option maxRecDepth 100000 in
set_option maxHeartbeats 2000000 in
theorem leaf_3 (he : EnvF B w p a s es rs) (hf : FrameP w g o pre post f) (hB : B ≤ g) (hk : f.kd = 3) :
    Calls Tryz.prog 83 #[.pointer (some ⟨p, 0, none⟩), .pointer (some ⟨g, o, none⟩)] w (Line B p g o pre post a ⟨true, 0, 0⟩ (s.go 4 f.fa (fun x => bits .or .u64 x (maskS f.fb))) es rs f w) := by
  have h0 := LSt.start he hf hB
  have H0 := Lib.hid h0
  have hng : g ≠ w.heap.size := by have := h0.lf; omega
  have hng1 := hng.symm
  clear he hf hB
  have c0 : (w.alloc (.cells (rcells' .none) 184)).cell? ⟨g, o, none⟩ = some (.int .i64 f.kd) := H0.out.f.at_ 0 (by omega)
  rw [hk] at c0
  go_enter Tryz.func83, Tryz.ntmps83
  go_upto_region 1 with fail
  generalize (w.alloc (.cells (rcells' .none) 184)) = W0 at *
  clear h0
  go_upto_region 9 with fail
  clear c0
  have H1 := Lib.hid H0.out.drew
  have d6 : W0.drew.cell? ⟨g, o + 6, none⟩ = some (.int .i64 f.fa) := H1.out.f.at_ 6 (by omega)
  have d7 : W0.drew.cell? ⟨g, o + 7, none⟩ = some (.int .i64 f.fb) := H1.out.f.at_ 7 (by omega)
  go_region_held3 (fun w' => w'.cell? ⟨g, o + 6, none⟩ = some (.int .i64 f.fa) ∧ w'.cell? ⟨g, o + 7, none⟩ = some (.int .i64 f.fb)) (go_keep)
    (first
      | (go_at_call 101
         refine (mask_any _ _).mono ?_
         rintro e W2 ⟨rfl, rfl⟩
         have H2 := H1
         skip)
      | (go_at_call 100
         refine (eor_any H2.out.e.m _ _).mono ?_
         rintro e W3 ⟨rfl, he, hf⟩
         have H3 := Lib.hid (H2.out.acc he hf)
         have bh6 : W3.cell? ⟨g, o + 6, none⟩ = some (.int .i64 f.fa) := H3.out.f.at_ 6 (by omega)
         have bh7 : W3.cell? ⟨g, o + 7, none⟩ = some (.int .i64 f.fb) := H3.out.f.at_ 7 (by omega)
         have s6 : W3.cell? ⟨g, o + 6, none⟩ = some (.int .i64 f.fa) := by rw []; exact bh6
         have s7 : W3.cell? ⟨g, o + 7, none⟩ = some (.int .i64 f.fb) := by rw []; exact bh7
         clear he hf))
  clear d6 d7 bh6 bh7 H0 H1 H2
  go_wp2_with fail
  (with_reducible refine (end_any _ _ _).mono ?_)
  rintro e W4 ⟨rfl, hb⟩
  have H4 := Lib.hid (H3.out.below hb)
  clear hb H3
  have r0 := H4.out.r.at_ 0
  have q0 := H4.out.r.free 0
  have r1 := H4.out.r.at_ 1
  have q1 := H4.out.r.free 1
  have r2 := H4.out.r.at_ 2
  have q2 := H4.out.r.free 2
  go_wp2
  refine bodyPost_ret (results_cell_row (P := Tryz.prog) Tryz.results83 _ _ w.heap.size 184 _ (0, 0) _ rfl (H4.out.res ⟨true, 0, 0⟩) Tryz.underlying184 rfl (by kernel_rfl)) rfl ?_
  exact H4.out.done ⟨true, 0, 0⟩
set_option maxRecDepth 100000 in
set_option maxHeartbeats 2000000 in
theorem leaf_7t (he : EnvF B w p a s es rs) (hf : FrameP w g o pre post f) (hB : B ≤ g) (hk : f.kd = 7) (hh : s.hit 1 0 = true) :
    Calls Tryz.prog 83 #[.pointer (some ⟨p, 0, none⟩), .pointer (some ⟨g, o, none⟩)] w (Line B p g o pre post a ⟨true, 1, 0⟩ (s.go 3 1 (fun x => if x = 0 then IntKind.u64.wrap (wrap64 (f.fa + 1)) else x)) es rs f w) := by
  have h0 := LSt.start he hf hB
  have H0 := Lib.hid h0
  have hng : g ≠ w.heap.size := by have := h0.lf; omega
  have hng1 := hng.symm
  clear he hf hB
  have HH := Lib.hid hh
  clear hh
  have c0 : (w.alloc (.cells (rcells' .none) 184)).cell? ⟨g, o, none⟩ = some (.int .i64 f.kd) := H0.out.f.at_ 0 (by omega)
  have c6 : (w.alloc (.cells (rcells' .none) 184)).cell? ⟨g, o + 6, none⟩ = some (.int .i64 f.fa) := H0.out.f.at_ 6 (by omega)
  rw [hk] at c0
  go_enter Tryz.func83, Tryz.ntmps83
  go_upto_region 1 with fail
  generalize (w.alloc (.cells (rcells' .none) 184)) = W0 at *
  clear h0
  go_wp2_with fail
  (with_reducible refine (ecas_any H0.out.e.m _ _ _).mono ?_)
  rintro e W1 ⟨rfl, he, hf⟩
  have H1 := Lib.hid (H0.out.acc he hf)
  clear c0 c6
  clear he hf H0
  rw [HH.out]
  go_wp2_with fail
  (with_reducible refine (end_any _ _ _).mono ?_)
  rintro e W2 ⟨rfl, hb⟩
  have H2 := Lib.hid (H1.out.below hb)
  clear hb H1
  have r0 := H2.out.r.at_ 0
  have q0 := H2.out.r.free 0
  have r1 := H2.out.r.at_ 1
  have q1 := H2.out.r.free 1
  have r2 := H2.out.r.at_ 2
  have q2 := H2.out.r.free 2
  go_wp2
  refine bodyPost_ret (results_cell_row (P := Tryz.prog) Tryz.results83 _ _ w.heap.size 184 _ (0, 0) _ rfl (H2.out.res ⟨true, 1, 0⟩) Tryz.underlying184 rfl (by kernel_rfl)) rfl ?_
  exact H2.out.done ⟨true, 1, 0⟩
set_option maxRecDepth 100000 in
set_option maxHeartbeats 2000000 in
theorem leaf_7f (he : EnvF B w p a s es rs) (hf : FrameP w g o pre post f) (hB : B ≤ g) (hk : f.kd = 7) (hh : s.hit 1 0 = false) :
    Calls Tryz.prog 83 #[.pointer (some ⟨p, 0, none⟩), .pointer (some ⟨g, o, none⟩)] w (Line B p g o pre post a .none (s.go 3 1 (fun x => if x = 0 then IntKind.u64.wrap (wrap64 (f.fa + 1)) else x)) es rs f w) := by
  have h0 := LSt.start he hf hB
  have H0 := Lib.hid h0
  have hng : g ≠ w.heap.size := by have := h0.lf; omega
  have hng1 := hng.symm
  clear he hf hB
  have HH := Lib.hid hh
  clear hh
  have c0 : (w.alloc (.cells (rcells' .none) 184)).cell? ⟨g, o, none⟩ = some (.int .i64 f.kd) := H0.out.f.at_ 0 (by omega)
  have c6 : (w.alloc (.cells (rcells' .none) 184)).cell? ⟨g, o + 6, none⟩ = some (.int .i64 f.fa) := H0.out.f.at_ 6 (by omega)
  rw [hk] at c0
  go_enter Tryz.func83, Tryz.ntmps83
  go_upto_region 1 with fail
  generalize (w.alloc (.cells (rcells' .none) 184)) = W0 at *
  clear h0
  go_wp2_with fail
  (with_reducible refine (ecas_any H0.out.e.m _ _ _).mono ?_)
  rintro e W1 ⟨rfl, he, hf⟩
  have H1 := Lib.hid (H0.out.acc he hf)
  clear c0 c6
  clear he hf H0
  rw [HH.out]
  have c0 : W1.cell? ⟨g, o, none⟩ = some (.int .i64 f.kd) := H1.out.f.at_ 0 (by omega)
  have r0 := H1.out.r.at_ 0
  have q0 := H1.out.r.free 0
  have r1 := H1.out.r.at_ 1
  have q1 := H1.out.r.free 1
  have r2 := H1.out.r.at_ 2
  have q2 := H1.out.r.free 2
  rw [hk] at c0
  go_wp2
  refine bodyPost_ret (results_cell_row (P := Tryz.prog) Tryz.results83 _ _ w.heap.size 184 _ (0, 0) _ rfl (H1.out.res .none) Tryz.underlying184 rfl (by kernel_rfl)) rfl ?_
  exact H1.out.done .none
set_option maxRecDepth 100000 in
set_option maxHeartbeats 2000000 in
theorem leaf_8t (he : EnvF B w p a s es rs) (hf : FrameP w g o pre post f) (hB : B ≤ g) (hk : f.kd = 8) (hh : s.hit 1 0 = true) :
    Calls Tryz.prog 83 #[.pointer (some ⟨p, 0, none⟩), .pointer (some ⟨g, o, none⟩)] w (Line B p g o pre post a ⟨true, 1, 0⟩ (s.go 3 1 (fun x => if x = 0 then IntKind.u64.wrap (wrap64 (f.fa + 1)) else x)) es rs f w) := by
  have h0 := LSt.start he hf hB
  have H0 := Lib.hid h0
  have hng : g ≠ w.heap.size := by have := h0.lf; omega
  have hng1 := hng.symm
  clear he hf hB
  have HH := Lib.hid hh
  clear hh
  have c0 : (w.alloc (.cells (rcells' .none) 184)).cell? ⟨g, o, none⟩ = some (.int .i64 f.kd) := H0.out.f.at_ 0 (by omega)
  have c6 : (w.alloc (.cells (rcells' .none) 184)).cell? ⟨g, o + 6, none⟩ = some (.int .i64 f.fa) := H0.out.f.at_ 6 (by omega)
  rw [hk] at c0
  go_enter Tryz.func83, Tryz.ntmps83
  go_upto_region 1 with fail
  generalize (w.alloc (.cells (rcells' .none) 184)) = W0 at *
  clear h0
  go_wp2_with fail
  (with_reducible refine (ecas_any H0.out.e.m _ _ _).mono ?_)
  rintro e W1 ⟨rfl, he, hf⟩
  have H1 := Lib.hid (H0.out.acc he hf)
  clear c0 c6
  clear he hf H0
  rw [HH.out]
  go_wp2_with fail
  (with_reducible refine (end_any _ _ _).mono ?_)
  rintro e W2 ⟨rfl, hb⟩
  have H2 := Lib.hid (H1.out.below hb)
  clear hb H1
  have r0 := H2.out.r.at_ 0
  have q0 := H2.out.r.free 0
  have r1 := H2.out.r.at_ 1
  have q1 := H2.out.r.free 1
  have r2 := H2.out.r.at_ 2
  have q2 := H2.out.r.free 2
  go_wp2
  refine bodyPost_ret (results_cell_row (P := Tryz.prog) Tryz.results83 _ _ w.heap.size 184 _ (0, 0) _ rfl (H2.out.res ⟨true, 1, 0⟩) Tryz.underlying184 rfl (by kernel_rfl)) rfl ?_
  exact H2.out.done ⟨true, 1, 0⟩
set_option maxRecDepth 100000 in
set_option maxHeartbeats 2000000 in
theorem leaf_8f (he : EnvF B w p a s es rs) (hf : FrameP w g o pre post f) (hB : B ≤ g) (hk : f.kd = 8) (hh : s.hit 1 0 = false) :
    Calls Tryz.prog 83 #[.pointer (some ⟨p, 0, none⟩), .pointer (some ⟨g, o, none⟩)] w (Line B p g o pre post a ⟨true, 5, 0⟩ (s.go 3 1 (fun x => if x = 0 then IntKind.u64.wrap (wrap64 (f.fa + 1)) else x)) es rs f w) := by
  have h0 := LSt.start he hf hB
  have H0 := Lib.hid h0
  have hng : g ≠ w.heap.size := by have := h0.lf; omega
  have hng1 := hng.symm
  clear he hf hB
  have HH := Lib.hid hh
  clear hh
  have c0 : (w.alloc (.cells (rcells' .none) 184)).cell? ⟨g, o, none⟩ = some (.int .i64 f.kd) := H0.out.f.at_ 0 (by omega)
  have c6 : (w.alloc (.cells (rcells' .none) 184)).cell? ⟨g, o + 6, none⟩ = some (.int .i64 f.fa) := H0.out.f.at_ 6 (by omega)
  rw [hk] at c0
  go_enter Tryz.func83, Tryz.ntmps83
  go_upto_region 1 with fail
  generalize (w.alloc (.cells (rcells' .none) 184)) = W0 at *
  clear h0
  go_wp2_with fail
  (with_reducible refine (ecas_any H0.out.e.m _ _ _).mono ?_)
  rintro e W1 ⟨rfl, he, hf⟩
  have H1 := Lib.hid (H0.out.acc he hf)
  clear c0 c6
  clear he hf H0
  rw [HH.out]
  have c0 : W1.cell? ⟨g, o, none⟩ = some (.int .i64 f.kd) := H1.out.f.at_ 0 (by omega)
  rw [hk] at c0
  go_wp2_with fail
  (with_reducible refine (end_any _ _ _).mono ?_)
  rintro e W2 ⟨rfl, hb⟩
  have H2 := Lib.hid (H1.out.below hb)
  clear c0
  clear hb H1
  have r0 := H2.out.r.at_ 0
  have q0 := H2.out.r.free 0
  have r1 := H2.out.r.at_ 1
  have q1 := H2.out.r.free 1
  have r2 := H2.out.r.at_ 2
  have q2 := H2.out.r.free 2
  go_wp2
  refine bodyPost_ret (results_cell_row (P := Tryz.prog) Tryz.results83 _ _ w.heap.size 184 _ (0, 0) _ rfl (H2.out.res ⟨true, 5, 0⟩) Tryz.underlying184 rfl (by kernel_rfl)) rfl ?_
  exact H2.out.done ⟨true, 5, 0⟩
set_option maxRecDepth 100000 in
set_option maxHeartbeats 2000000 in
theorem leaf_9 (he : EnvF B w p a s es rs) (hf : FrameP w g o pre post f) (hB : B ≤ g) (hk : f.kd = 9) :
    Calls Tryz.prog 83 #[.pointer (some ⟨p, 0, none⟩), .pointer (some ⟨g, o, none⟩)] w (Line B p g o pre post a ⟨true, 0, 0⟩ (s.go 2 1 (fun _ => 0)) es rs f w) := by
  have h0 := LSt.start he hf hB
  have H0 := Lib.hid h0
  have hng : g ≠ w.heap.size := by have := h0.lf; omega
  have hng1 := hng.symm
  clear he hf hB
  have c0 : (w.alloc (.cells (rcells' .none) 184)).cell? ⟨g, o, none⟩ = some (.int .i64 f.kd) := H0.out.f.at_ 0 (by omega)
  rw [hk] at c0
  go_enter Tryz.func83, Tryz.ntmps83
  go_upto_region 1 with fail
  generalize (w.alloc (.cells (rcells' .none) 184)) = W0 at *
  clear h0
  go_wp2_with fail
  (with_reducible refine (estore_any H0.out.e.m _ _).mono ?_)
  rintro e W1 ⟨rfl, he, hf⟩
  have H1 := Lib.hid (H0.out.acc he hf)
  clear c0
  clear he hf H0
  go_wp2_with fail
  (with_reducible refine (end_any _ _ _).mono ?_)
  rintro e W2 ⟨rfl, hb⟩
  have H2 := Lib.hid (H1.out.below hb)
  clear hb H1
  have r0 := H2.out.r.at_ 0
  have q0 := H2.out.r.free 0
  have r1 := H2.out.r.at_ 1
  have q1 := H2.out.r.free 1
  have r2 := H2.out.r.at_ 2
  have q2 := H2.out.r.free 2
  go_wp2
  refine bodyPost_ret (results_cell_row (P := Tryz.prog) Tryz.results83 _ _ w.heap.size 184 _ (0, 0) _ rfl (H2.out.res ⟨true, 0, 0⟩) Tryz.underlying184 rfl (by kernel_rfl)) rfl ?_
  exact H2.out.done ⟨true, 0, 0⟩
/-- The kinds of frames that need no configuration. -/
def bareK (k : Int) : Prop := k = 0 ∨ k = 1 ∨ k = 2 ∨ k = 3 ∨ k = 4 ∨ k = 7 ∨ k = 8 ∨ k = 9
theorem bareK.leaf {k : Int} (h : bareK k) : leafK k := by
  rcases h with rfl | rfl | rfl | rfl | rfl | rfl | rfl | rfl <;> exact ⟨rfl, rfl, rfl, rfl, rfl, rfl, rfl, rfl, rfl, rfl⟩
/-- A line of such a frame. -/
def leafS (s : St) (f : Fra) : St × Fra × Res :=
  if f.kd = 0 then pushS s f else if f.kd = 1 then popS s f else if f.kd = 2 then stealS s f
  else if f.kd = 3 then (s.go 4 f.fa (fun x => bits .or .u64 x (maskS f.fb)), f, ⟨true, 0, 0⟩)
  else if f.kd = 4 then clearS s f
  else if f.kd = 9 then (s.go 2 1 (fun _ => 0), f, ⟨true, 0, 0⟩)
  else (s.go 3 1 (fun x => if x = 0 then IntKind.u64.wrap (wrap64 (f.fa + 1)) else x), f, if s.hit 1 0 then ⟨true, 1, 0⟩ else if f.kd = 8 then ⟨true, 5, 0⟩ else .none)
theorem leaf_any (he : EnvF B w p a s es rs) (hf : FrameP w g o pre post f) (hB : B ≤ g) (hk : bareK f.kd) (hu : 0 ≤ f.fu) (hv : 0 ≤ f.fv) (hqc : f.qc ≤ 9223372036854775807) :
    Calls Tryz.prog 83 #[.pointer (some ⟨p, 0, none⟩), .pointer (some ⟨g, o, none⟩)] w (Line B p g o pre post a (leafS s f).2.2 (leafS s f).1 es rs (leafS s f).2.1 w) := by
  unfold leafS
  rcases hk with h | h | h | h | h | h | h | h
  · simpa [h] using leaf_0 he hf hB h hu hqc
  · simpa [h] using leaf_1 he hf hB h hqc
  · simpa [h] using leaf_2 he hf hB h hv hqc
  · simpa [h] using leaf_3 he hf hB h
  · simpa [h] using leaf_4 he hf hB h
  · cases hh : s.hit 1 0 with
    | true => simpa [h, hh] using leaf_7t he hf hB h hh
    | false => simpa [h, hh] using leaf_7f he hf hB h hh
  · cases hh : s.hit 1 0 with
    | true => simpa [h, hh] using leaf_8t he hf hB h hh
    | false => simpa [h, hh] using leaf_8f he hf hB h hh
  · simpa [h] using leaf_9 he hf hB h
end
end Go.Proofs.YtheimjcgpbmecaaGreat
