/-
  The reference's leaf beyond the bare kinds. (Written by wip/gen_leafd.py.)
-/
import Derived.Test.YtanbjdlaolgepaaGreatRemove8
namespace Go.Proofs.YtanbjdlaolgepaaGreat
open Go Go.RowKit
set_option linter.unusedSimpArgs false
set_option linter.unusedVariables false

section
variable {B p g o : Nat} {w : World} {pre post : List Value} {a : EnvA} {s : St} {es : List Ev} {rs : List Rec} {f : Fra}

variable {R : Res} {s0 : St} {es0 : List Ev} {rs0 : List Rec} {f0 : Fra}
set_option maxRecDepth 100000 in
set_option maxHeartbeats 2000000 in
theorem leaf_10 (he : EnvF B w p a s es rs) (hf : FrameP w g o pre post f) (hB : B ≤ g) (hk : f.kd = 10) (hc : ∀ W, EnvF B W p a s es rs → FrameP W g o pre post f → Calls Tryz.prog 88 #[.pointer (some ⟨p, 0, none⟩), .pointer (some ⟨g, o, none⟩)] W (Line B p g o pre post a R s0 es0 rs0 f0 W)) :
    Calls Tryz.prog 56 #[.pointer (some ⟨p, 0, none⟩), .pointer (some ⟨g, o, none⟩)] w (Line B p g o pre post a R s0 es0 rs0 f0 w) := by
  have h0 := LSt.start he hf hB
  have H0 := Lib.hid h0
  have hng : g ≠ w.heap.size := by have := h0.lf; omega
  have hng1 := hng.symm
  have hgp : g ≠ p := (h0.f.ne h0.e.m).1
  clear he hf hB
  have HC := Lib.hid hc
  clear hc
  have c0 : (w.alloc (.cells (rcells' .none) 140)).cell? ⟨g, o, none⟩ = some (.int .i64 f.kd) := H0.out.f.at_ 0 (by omega)
  rw [hk] at c0
  go_enter Tryz.func56, Tryz.ntmps56
  go_upto_region 1 with fail
  generalize (w.alloc (.cells (rcells' .none) 140)) = W0 at *
  clear h0
  go_wp2_with fail
  (with_reducible refine (HC.out _ H0.out.e H0.out.f).mono ?_)
  rintro e W1 hline
  obtain ⟨v1, rfl, h1⟩ := H0.out.call hline
  have H1 := Lib.hid h1
  clear c0
  clear hline h1 H0
  have r0 := H1.out.r.at_ 0
  have q0 := H1.out.r.free 0
  have r1 := H1.out.r.at_ 1
  have q1 := H1.out.r.free 1
  have r2 := H1.out.r.at_ 2
  have q2 := H1.out.r.free 2
  go_wp2
  refine bodyPost_ret (results_cell_row (P := Tryz.prog) Tryz.results56 _ _ w.heap.size 140 _ (0, 0) _ rfl (H1.out.res R) Tryz.underlying140 rfl (by kernel_rfl)) rfl ?_
  exact H1.out.done R
set_option maxRecDepth 100000 in
set_option maxHeartbeats 2000000 in
theorem leaf_11 (he : EnvF B w p a s es rs) (hf : FrameP w g o pre post f) (hB : B ≤ g) (hk : f.kd = 11) (hc : ∀ W, EnvF B W p a s es rs → FrameP W g o pre post f → Calls Tryz.prog 89 #[.pointer (some ⟨p, 0, none⟩), .pointer (some ⟨g, o, none⟩)] W (Line B p g o pre post a R s0 es0 rs0 f0 W)) :
    Calls Tryz.prog 56 #[.pointer (some ⟨p, 0, none⟩), .pointer (some ⟨g, o, none⟩)] w (Line B p g o pre post a R s0 es0 rs0 f0 w) := by
  have h0 := LSt.start he hf hB
  have H0 := Lib.hid h0
  have hng : g ≠ w.heap.size := by have := h0.lf; omega
  have hng1 := hng.symm
  have hgp : g ≠ p := (h0.f.ne h0.e.m).1
  clear he hf hB
  have HC := Lib.hid hc
  clear hc
  have c0 : (w.alloc (.cells (rcells' .none) 140)).cell? ⟨g, o, none⟩ = some (.int .i64 f.kd) := H0.out.f.at_ 0 (by omega)
  rw [hk] at c0
  go_enter Tryz.func56, Tryz.ntmps56
  go_upto_region 1 with fail
  generalize (w.alloc (.cells (rcells' .none) 140)) = W0 at *
  clear h0
  go_wp2_with fail
  (with_reducible refine (HC.out _ H0.out.e H0.out.f).mono ?_)
  rintro e W1 hline
  obtain ⟨v1, rfl, h1⟩ := H0.out.call hline
  have H1 := Lib.hid h1
  clear c0
  clear hline h1 H0
  have r0 := H1.out.r.at_ 0
  have q0 := H1.out.r.free 0
  have r1 := H1.out.r.at_ 1
  have q1 := H1.out.r.free 1
  have r2 := H1.out.r.at_ 2
  have q2 := H1.out.r.free 2
  go_wp2
  refine bodyPost_ret (results_cell_row (P := Tryz.prog) Tryz.results56 _ _ w.heap.size 140 _ (0, 0) _ rfl (H1.out.res R) Tryz.underlying140 rfl (by kernel_rfl)) rfl ?_
  exact H1.out.done R
end
end Go.Proofs.YtanbjdlaolgepaaGreat
