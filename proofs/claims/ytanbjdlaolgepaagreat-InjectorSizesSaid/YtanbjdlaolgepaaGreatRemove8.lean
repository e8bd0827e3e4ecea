/-
  The reference's remove, line by line. (Written by wip/gen_remove.py.)
-/
import Derived.Test.YtanbjdlaolgepaaGreatMgAH
import Derived.Great.BuildSlice
import Derived.StillTailTactics
import Derived.RegionTactic
import Derived.Test.YtanbjdlaolgepaaGreatSeq
import Derived.Test.YtanbjdlaolgepaaGreatMgAA
import Derived.Test.YtanbjdlaolgepaaGreatMgBD
import Derived.Deep.CutRange
import Derived.Test.YtanbjdlaolgepaaGreatMgAI
import Derived.Test.YtanbjdlaolgepaaGreatMgAF
import Derived.Test.YtanbjdlaolgepaaGreatMgAG
import Derived.Test.YtanbjdlaolgepaaGreatMgBF
namespace Go.Proofs.YtanbjdlaolgepaaGreat
open Go Go.RowKit
set_option linter.unusedSimpArgs false
set_option linter.unusedVariables false

set_option maxHeartbeats 1000000 in
theorem child_any {g o : Nat} {w : World} {pre post : List Value} {f : Fra} (hf : FrameP w g o pre post f) :
    Calls Tryz.prog 122 #[.pointer (some ⟨g, o, none⟩)] w fun e w' => e = .returned (.int .i64 (childN f.fi f.fn)) ∧ ∃ n, w' = w.drewN n := by
  have c9 : w.cell? ⟨g, o + 9, none⟩ = some (.int .i64 f.fi) := hf.at_ 9 (by omega)
  have c11 : w.cell? ⟨g, o + 11, none⟩ = some (.int .i64 f.fn) := hf.at_ 11 (by omega)
  clear hf
  by_cases hc : wrap64 (wrap64 (2 * f.fi) + 1) < wrap64 (f.fn - 1)
  · have hv : childN f.fi f.fn = 5 := if_pos hc
    rw [hv]
    clear hv
    have hc2 : IntKind.i64.wrap (IntKind.i64.wrap (2 * f.fi) + 1) < IntKind.i64.wrap (f.fn - 1) := by simp only [IntWalk.i64_left]; exact hc
    go_enter Tryz.func122, Tryz.ntmps122
    go_wp2_with fail
    go_quiet (fail)
    go_wp2
    go_ret
    exact ⟨rfl, _, rfl⟩
  · have hv : childN f.fi f.fn = 8 := if_neg hc
    rw [hv]
    clear hv
    have hc2 : ¬ (IntKind.i64.wrap (IntKind.i64.wrap (2 * f.fi) + 1) < IntKind.i64.wrap (f.fn - 1)) := by simp only [IntWalk.i64_left]; exact hc
    go_enter Tryz.func122, Tryz.ntmps122
    go_wp2_with fail
    go_quiet (fail)
    go_wp2
    go_ret
    exact ⟨rfl, _, rfl⟩
set_option maxHeartbeats 1000000 in
theorem lesser_any {g o : Nat} {w : World} {pre post : List Value} {f : Fra} (hf : FrameP w g o pre post f) :
    Calls Tryz.prog 123 #[.pointer (some ⟨g, o, none⟩)] w fun e w' => e = .returned (.int .i64 (lessN f.fw f.fv)) ∧ ∃ n, w' = w.drewN n := by
  have c15 : w.cell? ⟨g, o + 15, none⟩ = some (.int .u64 f.fw) := hf.at_ 15 (by omega)
  have c14 : w.cell? ⟨g, o + 14, none⟩ = some (.int .u64 f.fv) := hf.at_ 14 (by omega)
  clear hf
  by_cases hc : f.fw < f.fv
  · have hv : lessN f.fw f.fv = 7 := if_pos hc
    rw [hv]
    clear hv
    go_enter Tryz.func123, Tryz.ntmps123
    go_wp2_with fail
    go_quiet (fail)
    go_wp2
    go_ret
    exact ⟨rfl, _, rfl⟩
  · have hv : lessN f.fw f.fv = 8 := if_neg hc
    rw [hv]
    clear hv
    go_enter Tryz.func123, Tryz.ntmps123
    go_wp2_with fail
    go_quiet (fail)
    go_wp2
    go_ret
    exact ⟨rfl, _, rfl⟩
section
variable {B p g o : Nat} {w : World} {pre post : List Value} {a : EnvA} {s : St} {es : List Ev} {rs : List Rec} {f : Fra}

variable {U : Nat}
set_option maxRecDepth 100000 in
set_option maxHeartbeats 2000000 in
theorem remove_1e (he : EnvF B w p a s es rs) (hf : FrameP w g o pre post f) (hB : B ≤ g) (hin : CfgIn a.c) (hu : f.fu = (U : Int)) (hU : U < 18446744073709551616) (hl : f.ln = 1) (hc : Hid (wrap64 (s.old 2) ≤ 0)) :
    Calls Tryz.prog 89 #[.pointer (some ⟨p, 0, none⟩), .pointer (some ⟨g, o, none⟩)] w (Line B p g o pre post a ⟨true, 2, 0⟩ (s.go 1 2 id) es rs { f with fn := wrap64 (s.old 2) } w) := by
  have h0 := LSt.start he hf hB
  have H0 := Lib.hid h0
  have hng : g ≠ w.heap.size := by have := h0.lf; omega
  have hng1 := hng.symm
  have hgp : g ≠ p := (h0.f.ne h0.e.m).1
  clear he hf hB
  have HU := Lib.hid hu
  have HUB := Lib.hid hU
  clear hu hU
  have c1 : (w.alloc (.cells (rcells' .none) 140)).cell? ⟨g, o + 1, none⟩ = some (.int .i64 f.ln) := H0.out.f.at_ 1 (by omega)
  have c13 : (w.alloc (.cells (rcells' .none) 140)).cell? ⟨g, o + 13, none⟩ = some (.int .u64 f.fu) := H0.out.f.at_ 13 (by omega)
  rw [HU.out] at c13
  rw [hl] at c1
  go_enter Tryz.func89, Tryz.ntmps89
  go_upto_region 1 with fail
  generalize (w.alloc (.cells (rcells' .none) 140)) = W0 at *
  clear h0
  go_wp2_with fail
  (with_reducible refine (runpack_any U HUB.out _).mono ?_)
  rintro e W1 ⟨n1, rfl, rfl⟩
  have H1 := Lib.hid (H0.out.drewN n1)
  clear c1 c13
  clear H0
  generalize W0.drewN n1 = W1 at *
  have c1 : W1.cell? ⟨g, o + 1, none⟩ = some (.int .i64 f.ln) := H1.out.f.at_ 1 (by omega)
  rw [hl] at c1
  go_upto_region 7 with fail
  go_wp2_with fail
  (with_reducible refine (eload_any H1.out.e.m _).mono ?_)
  rintro e W2 ⟨rfl, he, hf⟩
  have H2 := Lib.hid (H1.out.acc he hf)
  clear c1
  clear he hf H1
  have c11 : W2.cell? ⟨g, o + 11, none⟩ = some (.int .i64 f.fn) := H2.out.f.at_ 11 (by omega)
  have k11 := H2.out.f.free (o + 11)
  go_upto_region 8 with fail
  have H3 := Lib.hid (H2.out.set 11 (by omega) (.int .i64 (wrap64 (s.old 2))) { f with fn := wrap64 (s.old 2) } rfl)
  clear c11 k11
  generalize (W2.setCell ⟨g, o + 11, none⟩ (.int .i64 (wrap64 (s.old 2)))) = W3 at *
  clear H2
  have c11 : W3.cell? ⟨g, o + 11, none⟩ = some (.int .i64 (wrap64 (s.old 2))) := H3.out.f.at_ 11 (by omega)
  have HP1 : wrap64 (s.old 2) ≤ 0 := hc.out
  go_wp2_with fail
  (with_reducible refine (end_any _ _ _).mono ?_)
  rintro e W4 ⟨rfl, hb⟩
  have H4 := Lib.hid (H3.out.below hb)
  clear c11
  clear hb H3
  have r0 := H4.out.r.at_ 0
  have q0 := H4.out.r.free 0
  have r1 := H4.out.r.at_ 1
  have q1 := H4.out.r.free 1
  have r2 := H4.out.r.at_ 2
  have q2 := H4.out.r.free 2
  go_wp2
  refine bodyPost_ret (results_cell_row (P := Tryz.prog) Tryz.results89 _ _ w.heap.size 140 _ (0, 0) _ rfl (H4.out.res ⟨true, 2, 0⟩) Tryz.underlying140 rfl (by kernel_rfl)) rfl ?_
  exact H4.out.done ⟨true, 2, 0⟩
set_option maxRecDepth 100000 in
set_option maxHeartbeats 2000000 in
theorem remove_1 (he : EnvF B w p a s es rs) (hf : FrameP w g o pre post f) (hB : B ≤ g) (hin : CfgIn a.c) (hu : f.fu = (U : Int)) (hU : U < 18446744073709551616) (hl : f.ln = 1) (hc : Hid (¬ wrap64 (s.old 2) ≤ 0)) :
    Calls Tryz.prog 89 #[.pointer (some ⟨p, 0, none⟩), .pointer (some ⟨g, o, none⟩)] w (Line B p g o pre post a .none (s.go 1 2 id) es rs { f with fn := wrap64 (s.old 2), ln := 2 } w) := by
  have h0 := LSt.start he hf hB
  have H0 := Lib.hid h0
  have hng : g ≠ w.heap.size := by have := h0.lf; omega
  have hng1 := hng.symm
  have hgp : g ≠ p := (h0.f.ne h0.e.m).1
  clear he hf hB
  have HU := Lib.hid hu
  have HUB := Lib.hid hU
  clear hu hU
  have c1 : (w.alloc (.cells (rcells' .none) 140)).cell? ⟨g, o + 1, none⟩ = some (.int .i64 f.ln) := H0.out.f.at_ 1 (by omega)
  have c13 : (w.alloc (.cells (rcells' .none) 140)).cell? ⟨g, o + 13, none⟩ = some (.int .u64 f.fu) := H0.out.f.at_ 13 (by omega)
  rw [HU.out] at c13
  rw [hl] at c1
  go_enter Tryz.func89, Tryz.ntmps89
  go_upto_region 1 with fail
  generalize (w.alloc (.cells (rcells' .none) 140)) = W0 at *
  clear h0
  go_wp2_with fail
  (with_reducible refine (runpack_any U HUB.out _).mono ?_)
  rintro e W1 ⟨n1, rfl, rfl⟩
  have H1 := Lib.hid (H0.out.drewN n1)
  clear c1 c13
  clear H0
  generalize W0.drewN n1 = W1 at *
  have c1 : W1.cell? ⟨g, o + 1, none⟩ = some (.int .i64 f.ln) := H1.out.f.at_ 1 (by omega)
  rw [hl] at c1
  go_upto_region 7 with fail
  go_wp2_with fail
  (with_reducible refine (eload_any H1.out.e.m _).mono ?_)
  rintro e W2 ⟨rfl, he, hf⟩
  have H2 := Lib.hid (H1.out.acc he hf)
  clear c1
  clear he hf H1
  have c11 : W2.cell? ⟨g, o + 11, none⟩ = some (.int .i64 f.fn) := H2.out.f.at_ 11 (by omega)
  have k11 := H2.out.f.free (o + 11)
  go_upto_region 8 with fail
  have H3 := Lib.hid (H2.out.set 11 (by omega) (.int .i64 (wrap64 (s.old 2))) { f with fn := wrap64 (s.old 2) } rfl)
  clear c11 k11
  generalize (W2.setCell ⟨g, o + 11, none⟩ (.int .i64 (wrap64 (s.old 2)))) = W3 at *
  clear H2
  have c11 : W3.cell? ⟨g, o + 11, none⟩ = some (.int .i64 (wrap64 (s.old 2))) := H3.out.f.at_ 11 (by omega)
  have HP1 : ¬ wrap64 (s.old 2) ≤ 0 := by have := hc.out; omega
  have HP2 : 0 < wrap64 (s.old 2) := by omega
  go_upto_region 35 with fail
  have c1 : W3.cell? ⟨g, o + 1, none⟩ = some (.int .i64 f.ln) := H3.out.f.at_ 1 (by omega)
  have k1 := H3.out.f.free (o + 1)
  have r0 := H3.out.r.at_ 0
  have q0 := H3.out.r.free 0
  have r1 := H3.out.r.at_ 1
  have q1 := H3.out.r.free 1
  have r2 := H3.out.r.at_ 2
  have q2 := H3.out.r.free 2
  rw [hl] at c1
  go_wp2
  have H4 := Lib.hid (H3.out.set 1 (by omega) (.int .i64 (2)) { f with fn := wrap64 (s.old 2), ln := 2 } rfl)
  clear c11 c1 k1 r0 q0 r1 q1 r2 q2
  refine bodyPost_ret (results_cell_row (P := Tryz.prog) Tryz.results89 _ _ w.heap.size 140 _ (0, 0) _ rfl (H4.out.res .none) Tryz.underlying140 rfl (by kernel_rfl)) rfl ?_
  exact H4.out.done .none
set_option maxRecDepth 100000 in
set_option maxHeartbeats 2000000 in
theorem remove_2 (he : EnvF B w p a s es rs) (hf : FrameP w g o pre post f) (hB : B ≤ g) (hin : CfgIn a.c) (hu : f.fu = (U : Int)) (hU : U < 18446744073709551616) (hl : f.ln = 2)  :
    Calls Tryz.prog 89 #[.pointer (some ⟨p, 0, none⟩), .pointer (some ⟨g, o, none⟩)] w (Line B p g o pre post a .none (s.go 1 (rSlot a.c 0) id) es rs { f with fu := s.old (rSlot a.c 0), ln := 3 } w) := by
  have h0 := LSt.start he hf hB
  have H0 := Lib.hid h0
  have hng : g ≠ w.heap.size := by have := h0.lf; omega
  have hng1 := hng.symm
  have hgp : g ≠ p := (h0.f.ne h0.e.m).1
  clear he hf hB
  have HU := Lib.hid hu
  have HUB := Lib.hid hU
  clear hu hU
  have c1 : (w.alloc (.cells (rcells' .none) 140)).cell? ⟨g, o + 1, none⟩ = some (.int .i64 f.ln) := H0.out.f.at_ 1 (by omega)
  have c13 : (w.alloc (.cells (rcells' .none) 140)).cell? ⟨g, o + 13, none⟩ = some (.int .u64 f.fu) := H0.out.f.at_ 13 (by omega)
  rw [HU.out] at c13
  rw [hl] at c1
  go_enter Tryz.func89, Tryz.ntmps89
  go_upto_region 1 with fail
  generalize (w.alloc (.cells (rcells' .none) 140)) = W0 at *
  clear h0
  go_wp2_with fail
  (with_reducible refine (runpack_any U HUB.out _).mono ?_)
  rintro e W1 ⟨n1, rfl, rfl⟩
  have H1 := Lib.hid (H0.out.drewN n1)
  clear c1 c13
  clear H0
  generalize W0.drewN n1 = W1 at *
  have c1 : W1.cell? ⟨g, o + 1, none⟩ = some (.int .i64 f.ln) := H1.out.f.at_ 1 (by omega)
  rw [hl] at c1
  go_upto_region 11 with fail
  clear c1
  have e0 : W1.cell? ⟨p, 0, none⟩ = some (.int .i64 a.c.wo) := H1.out.e.m.blk.at_ 0
  have e1 : W1.cell? ⟨p, 1, none⟩ = some (.int .i64 a.c.le) := H1.out.e.m.blk.at_ 1
  have e2 : W1.cell? ⟨p, 2, none⟩ = some (.int .i64 a.c.cl) := H1.out.e.m.blk.at_ 2
  have e3 : W1.cell? ⟨p, 3, none⟩ = some (.int .i64 a.c.ta) := H1.out.e.m.blk.at_ 3
  have e4 : W1.cell? ⟨p, 4, none⟩ = some (.int .i64 a.c.de) := H1.out.e.m.blk.at_ 4
  have e5 : W1.cell? ⟨p, 5, none⟩ = some (.int .i64 a.c.he) := H1.out.e.m.blk.at_ 5
  have e6 : W1.cell? ⟨p, 6, none⟩ = some (.int .i64 a.c.ba) := H1.out.e.m.blk.at_ 6
  have e7 : W1.cell? ⟨p, 7, none⟩ = some (.int .i64 a.c.ag) := H1.out.e.m.blk.at_ 7
  have e8 : W1.cell? ⟨p, 8, none⟩ = some (.int .i64 a.c.pa) := H1.out.e.m.blk.at_ 8
  have e9 : W1.cell? ⟨p, 9, none⟩ = some (.slice a.pa a.pn a.pc) := H1.out.e.m.blk.at_ 9
  have e10 : W1.cell? ⟨p, 10, none⟩ = some (.slice a.sa a.sn a.sc) := H1.out.e.m.blk.at_ 10
  go_wp2_with fail
  (with_reducible refine (slot_any hin _).mono ?_)
  rintro e W2 ⟨rfl, hb⟩
  have H2 := Lib.hid (H1.out.below hb)
  clear e0 e1 e2 e3 e4 e5 e6 e7 e8 e9 e10
  clear hb H1
  go_wp2_with fail
  (with_reducible refine (eload_any H2.out.e.m _).mono ?_)
  rintro e W3 ⟨rfl, he, hf⟩
  have H3 := Lib.hid (H2.out.acc he hf)
  clear he hf H2
  have c13 : W3.cell? ⟨g, o + 13, none⟩ = some (.int .u64 f.fu) := H3.out.f.at_ 13 (by omega)
  have k13 := H3.out.f.free (o + 13)
  go_upto_region 35 with fail
  have H4 := Lib.hid (H3.out.set 13 (by omega) (.int .u64 (s.old (rSlot a.c 0))) { f with fu := s.old (rSlot a.c 0) } rfl)
  clear c13 k13
  generalize (W3.setCell ⟨g, o + 13, none⟩ (.int .u64 (s.old (rSlot a.c 0)))) = W4 at *
  clear H3
  have c1 : W4.cell? ⟨g, o + 1, none⟩ = some (.int .i64 f.ln) := H4.out.f.at_ 1 (by omega)
  have k1 := H4.out.f.free (o + 1)
  have r0 := H4.out.r.at_ 0
  have q0 := H4.out.r.free 0
  have r1 := H4.out.r.at_ 1
  have q1 := H4.out.r.free 1
  have r2 := H4.out.r.at_ 2
  have q2 := H4.out.r.free 2
  rw [hl] at c1
  go_wp2
  have H5 := Lib.hid (H4.out.set 1 (by omega) (.int .i64 (3)) { f with fu := s.old (rSlot a.c 0), ln := 3 } rfl)
  clear c1 k1 r0 q0 r1 q1 r2 q2
  refine bodyPost_ret (results_cell_row (P := Tryz.prog) Tryz.results89 _ _ w.heap.size 140 _ (0, 0) _ rfl (H5.out.res .none) Tryz.underlying140 rfl (by kernel_rfl)) rfl ?_
  exact H5.out.done .none
set_option maxRecDepth 100000 in
set_option maxHeartbeats 2000000 in
theorem remove_3 (he : EnvF B w p a s es rs) (hf : FrameP w g o pre post f) (hB : B ≤ g) (hin : CfgIn a.c) (hu : f.fu = (U : Int)) (hU : U < 18446744073709551616) (hl : f.ln = 3)  :
    Calls Tryz.prog 89 #[.pointer (some ⟨p, 0, none⟩), .pointer (some ⟨g, o, none⟩)] w (Line B p g o pre post a .none (s.go 1 (rSlot a.c (IntKind.i64.wrap (f.fn - 1))) id) es rs { f with fv := s.old (rSlot a.c (IntKind.i64.wrap (f.fn - 1))), ln := 4 } w) := by
  have h0 := LSt.start he hf hB
  have H0 := Lib.hid h0
  have hng : g ≠ w.heap.size := by have := h0.lf; omega
  have hng1 := hng.symm
  have hgp : g ≠ p := (h0.f.ne h0.e.m).1
  clear he hf hB
  have HU := Lib.hid hu
  have HUB := Lib.hid hU
  clear hu hU
  have c1 : (w.alloc (.cells (rcells' .none) 140)).cell? ⟨g, o + 1, none⟩ = some (.int .i64 f.ln) := H0.out.f.at_ 1 (by omega)
  have c13 : (w.alloc (.cells (rcells' .none) 140)).cell? ⟨g, o + 13, none⟩ = some (.int .u64 f.fu) := H0.out.f.at_ 13 (by omega)
  rw [HU.out] at c13
  rw [hl] at c1
  go_enter Tryz.func89, Tryz.ntmps89
  go_upto_region 1 with fail
  generalize (w.alloc (.cells (rcells' .none) 140)) = W0 at *
  clear h0
  go_wp2_with fail
  (with_reducible refine (runpack_any U HUB.out _).mono ?_)
  rintro e W1 ⟨n1, rfl, rfl⟩
  have H1 := Lib.hid (H0.out.drewN n1)
  clear c1 c13
  clear H0
  generalize W0.drewN n1 = W1 at *
  have c1 : W1.cell? ⟨g, o + 1, none⟩ = some (.int .i64 f.ln) := H1.out.f.at_ 1 (by omega)
  rw [hl] at c1
  go_upto_region 13 with fail
  clear c1
  have H2 := Lib.hid H1.out.drew
  have d11 : W1.drew.cell? ⟨g, o + 11, none⟩ = some (.int .i64 f.fn) := H2.out.f.at_ 11 (by omega)
  have de0 : W1.drew.cell? ⟨p, 0, none⟩ = some (.int .i64 a.c.wo) := H2.out.e.m.blk.at_ 0
  have de1 : W1.drew.cell? ⟨p, 1, none⟩ = some (.int .i64 a.c.le) := H2.out.e.m.blk.at_ 1
  have de2 : W1.drew.cell? ⟨p, 2, none⟩ = some (.int .i64 a.c.cl) := H2.out.e.m.blk.at_ 2
  have de3 : W1.drew.cell? ⟨p, 3, none⟩ = some (.int .i64 a.c.ta) := H2.out.e.m.blk.at_ 3
  have de4 : W1.drew.cell? ⟨p, 4, none⟩ = some (.int .i64 a.c.de) := H2.out.e.m.blk.at_ 4
  have de5 : W1.drew.cell? ⟨p, 5, none⟩ = some (.int .i64 a.c.he) := H2.out.e.m.blk.at_ 5
  have de6 : W1.drew.cell? ⟨p, 6, none⟩ = some (.int .i64 a.c.ba) := H2.out.e.m.blk.at_ 6
  have de7 : W1.drew.cell? ⟨p, 7, none⟩ = some (.int .i64 a.c.ag) := H2.out.e.m.blk.at_ 7
  have de8 : W1.drew.cell? ⟨p, 8, none⟩ = some (.int .i64 a.c.pa) := H2.out.e.m.blk.at_ 8
  have de9 : W1.drew.cell? ⟨p, 9, none⟩ = some (.slice a.pa a.pn a.pc) := H2.out.e.m.blk.at_ 9
  have de10 : W1.drew.cell? ⟨p, 10, none⟩ = some (.slice a.sa a.sn a.sc) := H2.out.e.m.blk.at_ 10
  go_region_held3 (fun w' => w'.cell? ⟨g, o + 11, none⟩ = some (.int .i64 f.fn) ∧ w'.cell? ⟨p, 0, none⟩ = some (.int .i64 a.c.wo) ∧ w'.cell? ⟨p, 1, none⟩ = some (.int .i64 a.c.le) ∧ w'.cell? ⟨p, 2, none⟩ = some (.int .i64 a.c.cl) ∧ w'.cell? ⟨p, 3, none⟩ = some (.int .i64 a.c.ta) ∧ w'.cell? ⟨p, 4, none⟩ = some (.int .i64 a.c.de) ∧ w'.cell? ⟨p, 5, none⟩ = some (.int .i64 a.c.he) ∧ w'.cell? ⟨p, 6, none⟩ = some (.int .i64 a.c.ba) ∧ w'.cell? ⟨p, 7, none⟩ = some (.int .i64 a.c.ag) ∧ w'.cell? ⟨p, 8, none⟩ = some (.int .i64 a.c.pa) ∧ w'.cell? ⟨p, 9, none⟩ = some (.slice a.pa a.pn a.pc) ∧ w'.cell? ⟨p, 10, none⟩ = some (.slice a.sa a.sn a.sc)) ((first | exact ⟨s11, se0, se1, se2, se3, se4, se5, se6, se7, se8, se9, se10⟩ | go_keep))
    (first
      | (go_at_call 10
         refine (slot_any hin _).mono ?_
         rintro e W3 ⟨rfl, hb⟩
         have H3 := Lib.hid (H2.out.below hb)
         have ah11 : W3.cell? ⟨g, o + 11, none⟩ = some (.int .i64 f.fn) := H3.out.f.at_ 11 (by omega)
         have ahe0 : W3.cell? ⟨p, 0, none⟩ = some (.int .i64 a.c.wo) := H3.out.e.m.blk.at_ 0
         have ahe1 : W3.cell? ⟨p, 1, none⟩ = some (.int .i64 a.c.le) := H3.out.e.m.blk.at_ 1
         have ahe2 : W3.cell? ⟨p, 2, none⟩ = some (.int .i64 a.c.cl) := H3.out.e.m.blk.at_ 2
         have ahe3 : W3.cell? ⟨p, 3, none⟩ = some (.int .i64 a.c.ta) := H3.out.e.m.blk.at_ 3
         have ahe4 : W3.cell? ⟨p, 4, none⟩ = some (.int .i64 a.c.de) := H3.out.e.m.blk.at_ 4
         have ahe5 : W3.cell? ⟨p, 5, none⟩ = some (.int .i64 a.c.he) := H3.out.e.m.blk.at_ 5
         have ahe6 : W3.cell? ⟨p, 6, none⟩ = some (.int .i64 a.c.ba) := H3.out.e.m.blk.at_ 6
         have ahe7 : W3.cell? ⟨p, 7, none⟩ = some (.int .i64 a.c.ag) := H3.out.e.m.blk.at_ 7
         have ahe8 : W3.cell? ⟨p, 8, none⟩ = some (.int .i64 a.c.pa) := H3.out.e.m.blk.at_ 8
         have ahe9 : W3.cell? ⟨p, 9, none⟩ = some (.slice a.pa a.pn a.pc) := H3.out.e.m.blk.at_ 9
         have ahe10 : W3.cell? ⟨p, 10, none⟩ = some (.slice a.sa a.sn a.sc) := H3.out.e.m.blk.at_ 10
         clear hb)
      | (go_at_call 84
         refine (eload_any H3.out.e.m _).mono ?_
         rintro e W4 ⟨rfl, he, hf⟩
         have H4 := Lib.hid (H3.out.acc he hf)
         have bh11 : W4.cell? ⟨g, o + 11, none⟩ = some (.int .i64 f.fn) := H4.out.f.at_ 11 (by omega)
         have bhe0 : W4.cell? ⟨p, 0, none⟩ = some (.int .i64 a.c.wo) := H4.out.e.m.blk.at_ 0
         have bhe1 : W4.cell? ⟨p, 1, none⟩ = some (.int .i64 a.c.le) := H4.out.e.m.blk.at_ 1
         have bhe2 : W4.cell? ⟨p, 2, none⟩ = some (.int .i64 a.c.cl) := H4.out.e.m.blk.at_ 2
         have bhe3 : W4.cell? ⟨p, 3, none⟩ = some (.int .i64 a.c.ta) := H4.out.e.m.blk.at_ 3
         have bhe4 : W4.cell? ⟨p, 4, none⟩ = some (.int .i64 a.c.de) := H4.out.e.m.blk.at_ 4
         have bhe5 : W4.cell? ⟨p, 5, none⟩ = some (.int .i64 a.c.he) := H4.out.e.m.blk.at_ 5
         have bhe6 : W4.cell? ⟨p, 6, none⟩ = some (.int .i64 a.c.ba) := H4.out.e.m.blk.at_ 6
         have bhe7 : W4.cell? ⟨p, 7, none⟩ = some (.int .i64 a.c.ag) := H4.out.e.m.blk.at_ 7
         have bhe8 : W4.cell? ⟨p, 8, none⟩ = some (.int .i64 a.c.pa) := H4.out.e.m.blk.at_ 8
         have bhe9 : W4.cell? ⟨p, 9, none⟩ = some (.slice a.pa a.pn a.pc) := H4.out.e.m.blk.at_ 9
         have bhe10 : W4.cell? ⟨p, 10, none⟩ = some (.slice a.sa a.sn a.sc) := H4.out.e.m.blk.at_ 10
         have c14 : W4.cell? ⟨g, o + 14, none⟩ = some (.int .u64 f.fv) := H4.out.f.at_ 14 (by omega)
         have k14 := H4.out.f.free (o + 14)
         have s11 : (W4.setCell ⟨g, o + 14, none⟩ (.int .u64 (s.old (rSlot a.c (IntKind.i64.wrap (f.fn - 1)))))).cell? ⟨g, o + 11, none⟩ = some (.int .i64 f.fn) := by rw [World.cell?_setCell_other _ _ _ _ (by simp)]; exact bh11
         have se0 : (W4.setCell ⟨g, o + 14, none⟩ (.int .u64 (s.old (rSlot a.c (IntKind.i64.wrap (f.fn - 1)))))).cell? ⟨p, 0, none⟩ = some (.int .i64 a.c.wo) := by rw [World.cell?_setCell_other _ _ _ _ (by simp [hgp])]; exact bhe0
         have se1 : (W4.setCell ⟨g, o + 14, none⟩ (.int .u64 (s.old (rSlot a.c (IntKind.i64.wrap (f.fn - 1)))))).cell? ⟨p, 1, none⟩ = some (.int .i64 a.c.le) := by rw [World.cell?_setCell_other _ _ _ _ (by simp [hgp])]; exact bhe1
         have se2 : (W4.setCell ⟨g, o + 14, none⟩ (.int .u64 (s.old (rSlot a.c (IntKind.i64.wrap (f.fn - 1)))))).cell? ⟨p, 2, none⟩ = some (.int .i64 a.c.cl) := by rw [World.cell?_setCell_other _ _ _ _ (by simp [hgp])]; exact bhe2
         have se3 : (W4.setCell ⟨g, o + 14, none⟩ (.int .u64 (s.old (rSlot a.c (IntKind.i64.wrap (f.fn - 1)))))).cell? ⟨p, 3, none⟩ = some (.int .i64 a.c.ta) := by rw [World.cell?_setCell_other _ _ _ _ (by simp [hgp])]; exact bhe3
         have se4 : (W4.setCell ⟨g, o + 14, none⟩ (.int .u64 (s.old (rSlot a.c (IntKind.i64.wrap (f.fn - 1)))))).cell? ⟨p, 4, none⟩ = some (.int .i64 a.c.de) := by rw [World.cell?_setCell_other _ _ _ _ (by simp [hgp])]; exact bhe4
         have se5 : (W4.setCell ⟨g, o + 14, none⟩ (.int .u64 (s.old (rSlot a.c (IntKind.i64.wrap (f.fn - 1)))))).cell? ⟨p, 5, none⟩ = some (.int .i64 a.c.he) := by rw [World.cell?_setCell_other _ _ _ _ (by simp [hgp])]; exact bhe5
         have se6 : (W4.setCell ⟨g, o + 14, none⟩ (.int .u64 (s.old (rSlot a.c (IntKind.i64.wrap (f.fn - 1)))))).cell? ⟨p, 6, none⟩ = some (.int .i64 a.c.ba) := by rw [World.cell?_setCell_other _ _ _ _ (by simp [hgp])]; exact bhe6
         have se7 : (W4.setCell ⟨g, o + 14, none⟩ (.int .u64 (s.old (rSlot a.c (IntKind.i64.wrap (f.fn - 1)))))).cell? ⟨p, 7, none⟩ = some (.int .i64 a.c.ag) := by rw [World.cell?_setCell_other _ _ _ _ (by simp [hgp])]; exact bhe7
         have se8 : (W4.setCell ⟨g, o + 14, none⟩ (.int .u64 (s.old (rSlot a.c (IntKind.i64.wrap (f.fn - 1)))))).cell? ⟨p, 8, none⟩ = some (.int .i64 a.c.pa) := by rw [World.cell?_setCell_other _ _ _ _ (by simp [hgp])]; exact bhe8
         have se9 : (W4.setCell ⟨g, o + 14, none⟩ (.int .u64 (s.old (rSlot a.c (IntKind.i64.wrap (f.fn - 1)))))).cell? ⟨p, 9, none⟩ = some (.slice a.pa a.pn a.pc) := by rw [World.cell?_setCell_other _ _ _ _ (by simp [hgp])]; exact bhe9
         have se10 : (W4.setCell ⟨g, o + 14, none⟩ (.int .u64 (s.old (rSlot a.c (IntKind.i64.wrap (f.fn - 1)))))).cell? ⟨p, 10, none⟩ = some (.slice a.sa a.sn a.sc) := by rw [World.cell?_setCell_other _ _ _ _ (by simp [hgp])]; exact bhe10
         clear he hf))
  clear d11 de0 de1 de2 de3 de4 de5 de6 de7 de8 de9 de10 ah11 ahe0 ahe1 ahe2 ahe3 ahe4 ahe5 ahe6 ahe7 ahe8 ahe9 ahe10 bh11 bhe0 bhe1 bhe2 bhe3 bhe4 bhe5 bhe6 bhe7 bhe8 bhe9 bhe10 c14 k14 s11 se0 se1 se2 se3 se4 se5 se6 se7 se8 se9 se10 H1 H2 H3
  have H5 := Lib.hid (H4.out.set 14 (by omega) (.int .u64 (s.old (rSlot a.c (IntKind.i64.wrap (f.fn - 1))))) { f with fv := s.old (rSlot a.c (IntKind.i64.wrap (f.fn - 1))) } rfl)
  generalize (W4.setCell ⟨g, o + 14, none⟩ (.int .u64 (s.old (rSlot a.c (IntKind.i64.wrap (f.fn - 1)))))) = W5 at *
  clear H4
  go_upto_region 35 with fail
  have c1 : W5.cell? ⟨g, o + 1, none⟩ = some (.int .i64 f.ln) := H5.out.f.at_ 1 (by omega)
  have k1 := H5.out.f.free (o + 1)
  have r0 := H5.out.r.at_ 0
  have q0 := H5.out.r.free 0
  have r1 := H5.out.r.at_ 1
  have q1 := H5.out.r.free 1
  have r2 := H5.out.r.at_ 2
  have q2 := H5.out.r.free 2
  rw [hl] at c1
  go_wp2
  have H6 := Lib.hid (H5.out.set 1 (by omega) (.int .i64 (4)) { f with fv := s.old (rSlot a.c (IntKind.i64.wrap (f.fn - 1))), ln := 4 } rfl)
  clear c1 k1 r0 q0 r1 q1 r2 q2
  refine bodyPost_ret (results_cell_row (P := Tryz.prog) Tryz.results89 _ _ w.heap.size 140 _ (0, 0) _ rfl (H6.out.res .none) Tryz.underlying140 rfl (by kernel_rfl)) rfl ?_
  exact H6.out.done .none
set_option maxRecDepth 100000 in
set_option maxHeartbeats 2000000 in
theorem remove_4y (he : EnvF B w p a s es rs) (hf : FrameP w g o pre post f) (hB : B ≤ g) (hin : CfgIn a.c) (hu : f.fu = (U : Int)) (hU : U < 18446744073709551616) (hl : f.ln = 4) (hes : es.length ≤ 900000) (h1 : (f.fn == 1) = true) :
    Calls Tryz.prog 89 #[.pointer (some ⟨p, 0, none⟩), .pointer (some ⟨g, o, none⟩)] w (Line B p g o pre post a ⟨true, 1, ((U : Int) % 65536)⟩ (s.go 2 2 (fun _ => IntKind.u64.wrap (wrap64 (f.fn - 1)))) (es ++ [⟨13, f.fa, ((U : Int) % 65536), 0, 0⟩]) rs f w) := by
  have h0 := LSt.start he hf hB
  have H0 := Lib.hid h0
  have hng : g ≠ w.heap.size := by have := h0.lf; omega
  have hng1 := hng.symm
  have hgp : g ≠ p := (h0.f.ne h0.e.m).1
  clear he hf hB
  have HU := Lib.hid hu
  have HUB := Lib.hid hU
  clear hu hU
  have c1 : (w.alloc (.cells (rcells' .none) 140)).cell? ⟨g, o + 1, none⟩ = some (.int .i64 f.ln) := H0.out.f.at_ 1 (by omega)
  have c13 : (w.alloc (.cells (rcells' .none) 140)).cell? ⟨g, o + 13, none⟩ = some (.int .u64 f.fu) := H0.out.f.at_ 13 (by omega)
  rw [HU.out] at c13
  rw [hl] at c1
  go_enter Tryz.func89, Tryz.ntmps89
  go_upto_region 1 with fail
  generalize (w.alloc (.cells (rcells' .none) 140)) = W0 at *
  clear h0
  go_wp2_with fail
  (with_reducible refine (runpack_any U HUB.out _).mono ?_)
  rintro e W1 ⟨n1, rfl, rfl⟩
  have H1 := Lib.hid (H0.out.drewN n1)
  clear c1 c13
  clear H0
  generalize W0.drewN n1 = W1 at *
  have c1 : W1.cell? ⟨g, o + 1, none⟩ = some (.int .i64 f.ln) := H1.out.f.at_ 1 (by omega)
  rw [hl] at c1
  have HES := Lib.hid hes
  have HN1 := Lib.hid h1
  clear hes h1
  go_upto_region 15 with fail
  have c11 : W1.cell? ⟨g, o + 11, none⟩ = some (.int .i64 f.fn) := H1.out.f.at_ 11 (by omega)
  go_wp2_with fail
  (with_reducible refine (estore_any H1.out.e.m 2 _).mono ?_)
  rintro e W2 ⟨rfl, he, hf⟩
  have H2 := Lib.hid (H1.out.acc he hf)
  clear c1 c11
  clear he hf H1
  have c6 : W2.cell? ⟨g, o + 6, none⟩ = some (.int .i64 f.fa) := H2.out.f.at_ 6 (by omega)
  go_wp2_with fail
  (with_reducible refine (emit_any H2.out.e HES.out 13 f.fa ((U : Int) % 65536) 0 0).mono ?_)
  rintro e W3 ⟨v3, rfl, he, hf, hv⟩
  have H3 := Lib.hid (H2.out.emit he hf hv)
  clear c6
  clear he hf hv H2
  have c11 : W3.cell? ⟨g, o + 11, none⟩ = some (.int .i64 f.fn) := H3.out.f.at_ 11 (by omega)
  have h1 := HN1.out
  go_wp2_with fail
  (with_reducible refine (end_any _ _ _).mono ?_)
  rintro e W4 ⟨rfl, hb⟩
  have H4 := Lib.hid (H3.out.below hb)
  clear c11
  clear hb H3
  have r0 := H4.out.r.at_ 0
  have q0 := H4.out.r.free 0
  have r1 := H4.out.r.at_ 1
  have q1 := H4.out.r.free 1
  have r2 := H4.out.r.at_ 2
  have q2 := H4.out.r.free 2
  go_wp2
  refine bodyPost_ret (results_cell_row (P := Tryz.prog) Tryz.results89 _ _ w.heap.size 140 _ (0, 0) _ rfl (H4.out.res ⟨true, 1, ((U : Int) % 65536)⟩) Tryz.underlying140 rfl (by kernel_rfl)) rfl ?_
  exact H4.out.done ⟨true, 1, ((U : Int) % 65536)⟩
set_option maxRecDepth 100000 in
set_option maxHeartbeats 2000000 in
theorem remove_4n (he : EnvF B w p a s es rs) (hf : FrameP w g o pre post f) (hB : B ≤ g) (hin : CfgIn a.c) (hu : f.fu = (U : Int)) (hU : U < 18446744073709551616) (hl : f.ln = 4) (hes : es.length ≤ 900000) (h1 : (f.fn == 1) = false) :
    Calls Tryz.prog 89 #[.pointer (some ⟨p, 0, none⟩), .pointer (some ⟨g, o, none⟩)] w (Line B p g o pre post a .none (s.go 2 2 (fun _ => IntKind.u64.wrap (wrap64 (f.fn - 1)))) (es ++ [⟨13, f.fa, ((U : Int) % 65536), 0, 0⟩]) rs { f with fi := 0, ln := childN 0 f.fn } w) := by
  have h0 := LSt.start he hf hB
  have H0 := Lib.hid h0
  have hng : g ≠ w.heap.size := by have := h0.lf; omega
  have hng1 := hng.symm
  have hgp : g ≠ p := (h0.f.ne h0.e.m).1
  clear he hf hB
  have HU := Lib.hid hu
  have HUB := Lib.hid hU
  clear hu hU
  have c1 : (w.alloc (.cells (rcells' .none) 140)).cell? ⟨g, o + 1, none⟩ = some (.int .i64 f.ln) := H0.out.f.at_ 1 (by omega)
  have c13 : (w.alloc (.cells (rcells' .none) 140)).cell? ⟨g, o + 13, none⟩ = some (.int .u64 f.fu) := H0.out.f.at_ 13 (by omega)
  rw [HU.out] at c13
  rw [hl] at c1
  go_enter Tryz.func89, Tryz.ntmps89
  go_upto_region 1 with fail
  generalize (w.alloc (.cells (rcells' .none) 140)) = W0 at *
  clear h0
  go_wp2_with fail
  (with_reducible refine (runpack_any U HUB.out _).mono ?_)
  rintro e W1 ⟨n1, rfl, rfl⟩
  have H1 := Lib.hid (H0.out.drewN n1)
  clear c1 c13
  clear H0
  generalize W0.drewN n1 = W1 at *
  have c1 : W1.cell? ⟨g, o + 1, none⟩ = some (.int .i64 f.ln) := H1.out.f.at_ 1 (by omega)
  rw [hl] at c1
  have HES := Lib.hid hes
  have HN1 := Lib.hid h1
  clear hes h1
  go_upto_region 15 with fail
  have c11 : W1.cell? ⟨g, o + 11, none⟩ = some (.int .i64 f.fn) := H1.out.f.at_ 11 (by omega)
  go_wp2_with fail
  (with_reducible refine (estore_any H1.out.e.m 2 _).mono ?_)
  rintro e W2 ⟨rfl, he, hf⟩
  have H2 := Lib.hid (H1.out.acc he hf)
  clear c1 c11
  clear he hf H1
  have c6 : W2.cell? ⟨g, o + 6, none⟩ = some (.int .i64 f.fa) := H2.out.f.at_ 6 (by omega)
  go_wp2_with fail
  (with_reducible refine (emit_any H2.out.e HES.out 13 f.fa ((U : Int) % 65536) 0 0).mono ?_)
  rintro e W3 ⟨v3, rfl, he, hf, hv⟩
  have H3 := Lib.hid (H2.out.emit he hf hv)
  clear c6
  clear he hf hv H2
  have c11 : W3.cell? ⟨g, o + 11, none⟩ = some (.int .i64 f.fn) := H3.out.f.at_ 11 (by omega)
  have h1 := HN1.out
  go_upto_region 19 with fail
  clear c11
  clear h1
  have c9 : W3.cell? ⟨g, o + 9, none⟩ = some (.int .i64 f.fi) := H3.out.f.at_ 9 (by omega)
  have k9 := H3.out.f.free (o + 9)
  go_upto_region 20 with fail
  have H4 := Lib.hid (H3.out.set 9 (by omega) (.int .i64 (0)) { f with fi := 0 } rfl)
  clear c9 k9
  generalize (W3.setCell ⟨g, o + 9, none⟩ (.int .i64 (0))) = W4 at *
  clear H3
  go_wp2_with fail
  (with_reducible refine (child_any H4.out.f).mono ?_)
  rintro e W5 ⟨rfl, n5, rfl⟩
  have H5 := Lib.hid (H4.out.drewN n5)
  clear H4
  generalize W4.drewN n5 = W5 at *
  go_upto_region 35 with fail
  have c1 : W5.cell? ⟨g, o + 1, none⟩ = some (.int .i64 f.ln) := H5.out.f.at_ 1 (by omega)
  have k1 := H5.out.f.free (o + 1)
  have r0 := H5.out.r.at_ 0
  have q0 := H5.out.r.free 0
  have r1 := H5.out.r.at_ 1
  have q1 := H5.out.r.free 1
  have r2 := H5.out.r.at_ 2
  have q2 := H5.out.r.free 2
  rw [hl] at c1
  go_wp2
  have H6 := Lib.hid (H5.out.set 1 (by omega) (.int .i64 (childN 0 f.fn)) { f with fi := 0, ln := childN 0 f.fn } rfl)
  clear c1 k1 r0 q0 r1 q1 r2 q2
  refine bodyPost_ret (results_cell_row (P := Tryz.prog) Tryz.results89 _ _ w.heap.size 140 _ (0, 0) _ rfl (H6.out.res .none) Tryz.underlying140 rfl (by kernel_rfl)) rfl ?_
  exact H6.out.done .none
set_option maxRecDepth 100000 in
set_option maxHeartbeats 2000000 in
theorem remove_5l (he : EnvF B w p a s es rs) (hf : FrameP w g o pre post f) (hB : B ≤ g) (hin : CfgIn a.c) (hu : f.fu = (U : Int)) (hU : U < 18446744073709551616) (hl : f.ln = 5) (hc : Hid (wrap64 (f.fn - 1) ≤ wrap64 (wrap64 (2 * f.fi) + 2))) :
    Calls Tryz.prog 89 #[.pointer (some ⟨p, 0, none⟩), .pointer (some ⟨g, o, none⟩)] w (Line B p g o pre post a .none (s.go 1 (rSlot a.c (wrap64 (wrap64 (2 * f.fi) + 1))) id) es rs { f with fj := wrap64 (wrap64 (2 * f.fi) + 1), fw := s.old (rSlot a.c (wrap64 (wrap64 (2 * f.fi) + 1))), ln := lessN (s.old (rSlot a.c (wrap64 (wrap64 (2 * f.fi) + 1)))) f.fv } w) := by
  have h0 := LSt.start he hf hB
  have H0 := Lib.hid h0
  have hng : g ≠ w.heap.size := by have := h0.lf; omega
  have hng1 := hng.symm
  have hgp : g ≠ p := (h0.f.ne h0.e.m).1
  clear he hf hB
  have HU := Lib.hid hu
  have HUB := Lib.hid hU
  clear hu hU
  have c1 : (w.alloc (.cells (rcells' .none) 140)).cell? ⟨g, o + 1, none⟩ = some (.int .i64 f.ln) := H0.out.f.at_ 1 (by omega)
  have c13 : (w.alloc (.cells (rcells' .none) 140)).cell? ⟨g, o + 13, none⟩ = some (.int .u64 f.fu) := H0.out.f.at_ 13 (by omega)
  rw [HU.out] at c13
  rw [hl] at c1
  go_enter Tryz.func89, Tryz.ntmps89
  go_upto_region 1 with fail
  generalize (w.alloc (.cells (rcells' .none) 140)) = W0 at *
  clear h0
  go_wp2_with fail
  (with_reducible refine (runpack_any U HUB.out _).mono ?_)
  rintro e W1 ⟨n1, rfl, rfl⟩
  have H1 := Lib.hid (H0.out.drewN n1)
  clear c1 c13
  clear H0
  generalize W0.drewN n1 = W1 at *
  have c1 : W1.cell? ⟨g, o + 1, none⟩ = some (.int .i64 f.ln) := H1.out.f.at_ 1 (by omega)
  rw [hl] at c1
  go_upto_region 22 with fail
  clear c1
  have c9 : W1.cell? ⟨g, o + 9, none⟩ = some (.int .i64 f.fi) := H1.out.f.at_ 9 (by omega)
  have c10 : W1.cell? ⟨g, o + 10, none⟩ = some (.int .i64 f.fj) := H1.out.f.at_ 10 (by omega)
  have k10 := H1.out.f.free (o + 10)
  go_upto_region 23 with fail
  have H2 := Lib.hid (H1.out.set 10 (by omega) (.int .i64 (wrap64 (wrap64 (2 * f.fi) + 1))) { f with fj := wrap64 (wrap64 (2 * f.fi) + 1) } rfl)
  clear c9 c10 k10
  generalize (W1.setCell ⟨g, o + 10, none⟩ (.int .i64 (wrap64 (wrap64 (2 * f.fi) + 1)))) = W2 at *
  clear H1
  have H3 := Lib.hid H2.out.drew
  have d10 : W2.drew.cell? ⟨g, o + 10, none⟩ = some (.int .i64 (wrap64 (wrap64 (2 * f.fi) + 1))) := H3.out.f.at_ 10 (by omega)
  have de0 : W2.drew.cell? ⟨p, 0, none⟩ = some (.int .i64 a.c.wo) := H3.out.e.m.blk.at_ 0
  have de1 : W2.drew.cell? ⟨p, 1, none⟩ = some (.int .i64 a.c.le) := H3.out.e.m.blk.at_ 1
  have de2 : W2.drew.cell? ⟨p, 2, none⟩ = some (.int .i64 a.c.cl) := H3.out.e.m.blk.at_ 2
  have de3 : W2.drew.cell? ⟨p, 3, none⟩ = some (.int .i64 a.c.ta) := H3.out.e.m.blk.at_ 3
  have de4 : W2.drew.cell? ⟨p, 4, none⟩ = some (.int .i64 a.c.de) := H3.out.e.m.blk.at_ 4
  have de5 : W2.drew.cell? ⟨p, 5, none⟩ = some (.int .i64 a.c.he) := H3.out.e.m.blk.at_ 5
  have de6 : W2.drew.cell? ⟨p, 6, none⟩ = some (.int .i64 a.c.ba) := H3.out.e.m.blk.at_ 6
  have de7 : W2.drew.cell? ⟨p, 7, none⟩ = some (.int .i64 a.c.ag) := H3.out.e.m.blk.at_ 7
  have de8 : W2.drew.cell? ⟨p, 8, none⟩ = some (.int .i64 a.c.pa) := H3.out.e.m.blk.at_ 8
  have de9 : W2.drew.cell? ⟨p, 9, none⟩ = some (.slice a.pa a.pn a.pc) := H3.out.e.m.blk.at_ 9
  have de10 : W2.drew.cell? ⟨p, 10, none⟩ = some (.slice a.sa a.sn a.sc) := H3.out.e.m.blk.at_ 10
  go_region_held3 (fun w' => w'.cell? ⟨g, o + 10, none⟩ = some (.int .i64 (wrap64 (wrap64 (2 * f.fi) + 1))) ∧ w'.cell? ⟨p, 0, none⟩ = some (.int .i64 a.c.wo) ∧ w'.cell? ⟨p, 1, none⟩ = some (.int .i64 a.c.le) ∧ w'.cell? ⟨p, 2, none⟩ = some (.int .i64 a.c.cl) ∧ w'.cell? ⟨p, 3, none⟩ = some (.int .i64 a.c.ta) ∧ w'.cell? ⟨p, 4, none⟩ = some (.int .i64 a.c.de) ∧ w'.cell? ⟨p, 5, none⟩ = some (.int .i64 a.c.he) ∧ w'.cell? ⟨p, 6, none⟩ = some (.int .i64 a.c.ba) ∧ w'.cell? ⟨p, 7, none⟩ = some (.int .i64 a.c.ag) ∧ w'.cell? ⟨p, 8, none⟩ = some (.int .i64 a.c.pa) ∧ w'.cell? ⟨p, 9, none⟩ = some (.slice a.pa a.pn a.pc) ∧ w'.cell? ⟨p, 10, none⟩ = some (.slice a.sa a.sn a.sc)) ((first | exact ⟨s10, se0, se1, se2, se3, se4, se5, se6, se7, se8, se9, se10⟩ | go_keep))
    (first
      | (go_at_call 10
         refine (slot_any hin _).mono ?_
         rintro e W4 ⟨rfl, hb⟩
         have H4 := Lib.hid (H3.out.below hb)
         have ah10 : W4.cell? ⟨g, o + 10, none⟩ = some (.int .i64 (wrap64 (wrap64 (2 * f.fi) + 1))) := H4.out.f.at_ 10 (by omega)
         have ahe0 : W4.cell? ⟨p, 0, none⟩ = some (.int .i64 a.c.wo) := H4.out.e.m.blk.at_ 0
         have ahe1 : W4.cell? ⟨p, 1, none⟩ = some (.int .i64 a.c.le) := H4.out.e.m.blk.at_ 1
         have ahe2 : W4.cell? ⟨p, 2, none⟩ = some (.int .i64 a.c.cl) := H4.out.e.m.blk.at_ 2
         have ahe3 : W4.cell? ⟨p, 3, none⟩ = some (.int .i64 a.c.ta) := H4.out.e.m.blk.at_ 3
         have ahe4 : W4.cell? ⟨p, 4, none⟩ = some (.int .i64 a.c.de) := H4.out.e.m.blk.at_ 4
         have ahe5 : W4.cell? ⟨p, 5, none⟩ = some (.int .i64 a.c.he) := H4.out.e.m.blk.at_ 5
         have ahe6 : W4.cell? ⟨p, 6, none⟩ = some (.int .i64 a.c.ba) := H4.out.e.m.blk.at_ 6
         have ahe7 : W4.cell? ⟨p, 7, none⟩ = some (.int .i64 a.c.ag) := H4.out.e.m.blk.at_ 7
         have ahe8 : W4.cell? ⟨p, 8, none⟩ = some (.int .i64 a.c.pa) := H4.out.e.m.blk.at_ 8
         have ahe9 : W4.cell? ⟨p, 9, none⟩ = some (.slice a.pa a.pn a.pc) := H4.out.e.m.blk.at_ 9
         have ahe10 : W4.cell? ⟨p, 10, none⟩ = some (.slice a.sa a.sn a.sc) := H4.out.e.m.blk.at_ 10
         clear hb)
      | (go_at_call 84
         refine (eload_any H4.out.e.m _).mono ?_
         rintro e W5 ⟨rfl, he, hf⟩
         have H5 := Lib.hid (H4.out.acc he hf)
         have bh10 : W5.cell? ⟨g, o + 10, none⟩ = some (.int .i64 (wrap64 (wrap64 (2 * f.fi) + 1))) := H5.out.f.at_ 10 (by omega)
         have bhe0 : W5.cell? ⟨p, 0, none⟩ = some (.int .i64 a.c.wo) := H5.out.e.m.blk.at_ 0
         have bhe1 : W5.cell? ⟨p, 1, none⟩ = some (.int .i64 a.c.le) := H5.out.e.m.blk.at_ 1
         have bhe2 : W5.cell? ⟨p, 2, none⟩ = some (.int .i64 a.c.cl) := H5.out.e.m.blk.at_ 2
         have bhe3 : W5.cell? ⟨p, 3, none⟩ = some (.int .i64 a.c.ta) := H5.out.e.m.blk.at_ 3
         have bhe4 : W5.cell? ⟨p, 4, none⟩ = some (.int .i64 a.c.de) := H5.out.e.m.blk.at_ 4
         have bhe5 : W5.cell? ⟨p, 5, none⟩ = some (.int .i64 a.c.he) := H5.out.e.m.blk.at_ 5
         have bhe6 : W5.cell? ⟨p, 6, none⟩ = some (.int .i64 a.c.ba) := H5.out.e.m.blk.at_ 6
         have bhe7 : W5.cell? ⟨p, 7, none⟩ = some (.int .i64 a.c.ag) := H5.out.e.m.blk.at_ 7
         have bhe8 : W5.cell? ⟨p, 8, none⟩ = some (.int .i64 a.c.pa) := H5.out.e.m.blk.at_ 8
         have bhe9 : W5.cell? ⟨p, 9, none⟩ = some (.slice a.pa a.pn a.pc) := H5.out.e.m.blk.at_ 9
         have bhe10 : W5.cell? ⟨p, 10, none⟩ = some (.slice a.sa a.sn a.sc) := H5.out.e.m.blk.at_ 10
         have c15 : W5.cell? ⟨g, o + 15, none⟩ = some (.int .u64 f.fw) := H5.out.f.at_ 15 (by omega)
         have k15 := H5.out.f.free (o + 15)
         have s10 : (W5.setCell ⟨g, o + 15, none⟩ (.int .u64 (s.old (rSlot a.c (wrap64 (wrap64 (2 * f.fi) + 1)))))).cell? ⟨g, o + 10, none⟩ = some (.int .i64 (wrap64 (wrap64 (2 * f.fi) + 1))) := by rw [World.cell?_setCell_other _ _ _ _ (by simp)]; exact bh10
         have se0 : (W5.setCell ⟨g, o + 15, none⟩ (.int .u64 (s.old (rSlot a.c (wrap64 (wrap64 (2 * f.fi) + 1)))))).cell? ⟨p, 0, none⟩ = some (.int .i64 a.c.wo) := by rw [World.cell?_setCell_other _ _ _ _ (by simp [hgp])]; exact bhe0
         have se1 : (W5.setCell ⟨g, o + 15, none⟩ (.int .u64 (s.old (rSlot a.c (wrap64 (wrap64 (2 * f.fi) + 1)))))).cell? ⟨p, 1, none⟩ = some (.int .i64 a.c.le) := by rw [World.cell?_setCell_other _ _ _ _ (by simp [hgp])]; exact bhe1
         have se2 : (W5.setCell ⟨g, o + 15, none⟩ (.int .u64 (s.old (rSlot a.c (wrap64 (wrap64 (2 * f.fi) + 1)))))).cell? ⟨p, 2, none⟩ = some (.int .i64 a.c.cl) := by rw [World.cell?_setCell_other _ _ _ _ (by simp [hgp])]; exact bhe2
         have se3 : (W5.setCell ⟨g, o + 15, none⟩ (.int .u64 (s.old (rSlot a.c (wrap64 (wrap64 (2 * f.fi) + 1)))))).cell? ⟨p, 3, none⟩ = some (.int .i64 a.c.ta) := by rw [World.cell?_setCell_other _ _ _ _ (by simp [hgp])]; exact bhe3
         have se4 : (W5.setCell ⟨g, o + 15, none⟩ (.int .u64 (s.old (rSlot a.c (wrap64 (wrap64 (2 * f.fi) + 1)))))).cell? ⟨p, 4, none⟩ = some (.int .i64 a.c.de) := by rw [World.cell?_setCell_other _ _ _ _ (by simp [hgp])]; exact bhe4
         have se5 : (W5.setCell ⟨g, o + 15, none⟩ (.int .u64 (s.old (rSlot a.c (wrap64 (wrap64 (2 * f.fi) + 1)))))).cell? ⟨p, 5, none⟩ = some (.int .i64 a.c.he) := by rw [World.cell?_setCell_other _ _ _ _ (by simp [hgp])]; exact bhe5
         have se6 : (W5.setCell ⟨g, o + 15, none⟩ (.int .u64 (s.old (rSlot a.c (wrap64 (wrap64 (2 * f.fi) + 1)))))).cell? ⟨p, 6, none⟩ = some (.int .i64 a.c.ba) := by rw [World.cell?_setCell_other _ _ _ _ (by simp [hgp])]; exact bhe6
         have se7 : (W5.setCell ⟨g, o + 15, none⟩ (.int .u64 (s.old (rSlot a.c (wrap64 (wrap64 (2 * f.fi) + 1)))))).cell? ⟨p, 7, none⟩ = some (.int .i64 a.c.ag) := by rw [World.cell?_setCell_other _ _ _ _ (by simp [hgp])]; exact bhe7
         have se8 : (W5.setCell ⟨g, o + 15, none⟩ (.int .u64 (s.old (rSlot a.c (wrap64 (wrap64 (2 * f.fi) + 1)))))).cell? ⟨p, 8, none⟩ = some (.int .i64 a.c.pa) := by rw [World.cell?_setCell_other _ _ _ _ (by simp [hgp])]; exact bhe8
         have se9 : (W5.setCell ⟨g, o + 15, none⟩ (.int .u64 (s.old (rSlot a.c (wrap64 (wrap64 (2 * f.fi) + 1)))))).cell? ⟨p, 9, none⟩ = some (.slice a.pa a.pn a.pc) := by rw [World.cell?_setCell_other _ _ _ _ (by simp [hgp])]; exact bhe9
         have se10 : (W5.setCell ⟨g, o + 15, none⟩ (.int .u64 (s.old (rSlot a.c (wrap64 (wrap64 (2 * f.fi) + 1)))))).cell? ⟨p, 10, none⟩ = some (.slice a.sa a.sn a.sc) := by rw [World.cell?_setCell_other _ _ _ _ (by simp [hgp])]; exact bhe10
         clear he hf))
  clear d10 de0 de1 de2 de3 de4 de5 de6 de7 de8 de9 de10 ah10 ahe0 ahe1 ahe2 ahe3 ahe4 ahe5 ahe6 ahe7 ahe8 ahe9 ahe10 bh10 bhe0 bhe1 bhe2 bhe3 bhe4 bhe5 bhe6 bhe7 bhe8 bhe9 bhe10 c15 k15 s10 se0 se1 se2 se3 se4 se5 se6 se7 se8 se9 se10 H2 H3 H4
  have H6 := Lib.hid (H5.out.set 15 (by omega) (.int .u64 (s.old (rSlot a.c (wrap64 (wrap64 (2 * f.fi) + 1))))) { f with fj := wrap64 (wrap64 (2 * f.fi) + 1), fw := s.old (rSlot a.c (wrap64 (wrap64 (2 * f.fi) + 1))) } rfl)
  generalize (W5.setCell ⟨g, o + 15, none⟩ (.int .u64 (s.old (rSlot a.c (wrap64 (wrap64 (2 * f.fi) + 1)))))) = W6 at *
  clear H5
  have HP1 : wrap64 (f.fn - 1) ≤ wrap64 (wrap64 (2 * f.fi) + 2) := by have := hc.out; omega
  have HP2 : IntKind.i64.wrap (f.fn - 1) ≤ IntKind.i64.wrap (IntKind.i64.wrap (2 * f.fi) + 2) := by simp only [IntWalk.i64_left]; exact HP1
  have HP3 : ¬ (IntKind.i64.wrap (IntKind.i64.wrap (2 * f.fi) + 2) < IntKind.i64.wrap (f.fn - 1)) := by omega
  have HP4 : ¬ (wrap64 (wrap64 (2 * f.fi) + 2) < wrap64 (f.fn - 1)) := by omega
  go_upto_region 24 with fail
  have c9 : W6.cell? ⟨g, o + 9, none⟩ = some (.int .i64 f.fi) := H6.out.f.at_ 9 (by omega)
  have c11 : W6.cell? ⟨g, o + 11, none⟩ = some (.int .i64 f.fn) := H6.out.f.at_ 11 (by omega)
  go_quiet (fail)
  have H7 := Lib.hid (H6.out.drewN nq)
  clear c9 c11
  generalize W6.drewN nq = W7 at *
  clear H6
  go_wp2_with fail
  (with_reducible refine (lesser_any H7.out.f).mono ?_)
  rintro e W8 ⟨rfl, n8, rfl⟩
  have H8 := Lib.hid (H7.out.drewN n8)
  clear H7
  generalize W7.drewN n8 = W8 at *
  go_upto_region 35 with fail
  have c1 : W8.cell? ⟨g, o + 1, none⟩ = some (.int .i64 f.ln) := H8.out.f.at_ 1 (by omega)
  have k1 := H8.out.f.free (o + 1)
  have r0 := H8.out.r.at_ 0
  have q0 := H8.out.r.free 0
  have r1 := H8.out.r.at_ 1
  have q1 := H8.out.r.free 1
  have r2 := H8.out.r.at_ 2
  have q2 := H8.out.r.free 2
  rw [hl] at c1
  go_wp2
  have H9 := Lib.hid (H8.out.set 1 (by omega) (.int .i64 (lessN (s.old (rSlot a.c (wrap64 (wrap64 (2 * f.fi) + 1)))) f.fv)) { f with fj := wrap64 (wrap64 (2 * f.fi) + 1), fw := s.old (rSlot a.c (wrap64 (wrap64 (2 * f.fi) + 1))), ln := lessN (s.old (rSlot a.c (wrap64 (wrap64 (2 * f.fi) + 1)))) f.fv } rfl)
  clear c1 k1 r0 q0 r1 q1 r2 q2
  refine bodyPost_ret (results_cell_row (P := Tryz.prog) Tryz.results89 _ _ w.heap.size 140 _ (0, 0) _ rfl (H9.out.res .none) Tryz.underlying140 rfl (by kernel_rfl)) rfl ?_
  exact H9.out.done .none
set_option maxRecDepth 100000 in
set_option maxHeartbeats 2000000 in
theorem remove_5n (he : EnvF B w p a s es rs) (hf : FrameP w g o pre post f) (hB : B ≤ g) (hin : CfgIn a.c) (hu : f.fu = (U : Int)) (hU : U < 18446744073709551616) (hl : f.ln = 5) (hc : Hid (¬ wrap64 (f.fn - 1) ≤ wrap64 (wrap64 (2 * f.fi) + 2))) :
    Calls Tryz.prog 89 #[.pointer (some ⟨p, 0, none⟩), .pointer (some ⟨g, o, none⟩)] w (Line B p g o pre post a .none (s.go 1 (rSlot a.c (wrap64 (wrap64 (2 * f.fi) + 1))) id) es rs { f with fj := wrap64 (wrap64 (2 * f.fi) + 1), fw := s.old (rSlot a.c (wrap64 (wrap64 (2 * f.fi) + 1))), ln := 6 } w) := by
  have h0 := LSt.start he hf hB
  have H0 := Lib.hid h0
  have hng : g ≠ w.heap.size := by have := h0.lf; omega
  have hng1 := hng.symm
  have hgp : g ≠ p := (h0.f.ne h0.e.m).1
  clear he hf hB
  have HU := Lib.hid hu
  have HUB := Lib.hid hU
  clear hu hU
  have c1 : (w.alloc (.cells (rcells' .none) 140)).cell? ⟨g, o + 1, none⟩ = some (.int .i64 f.ln) := H0.out.f.at_ 1 (by omega)
  have c13 : (w.alloc (.cells (rcells' .none) 140)).cell? ⟨g, o + 13, none⟩ = some (.int .u64 f.fu) := H0.out.f.at_ 13 (by omega)
  rw [HU.out] at c13
  rw [hl] at c1
  go_enter Tryz.func89, Tryz.ntmps89
  go_upto_region 1 with fail
  generalize (w.alloc (.cells (rcells' .none) 140)) = W0 at *
  clear h0
  go_wp2_with fail
  (with_reducible refine (runpack_any U HUB.out _).mono ?_)
  rintro e W1 ⟨n1, rfl, rfl⟩
  have H1 := Lib.hid (H0.out.drewN n1)
  clear c1 c13
  clear H0
  generalize W0.drewN n1 = W1 at *
  have c1 : W1.cell? ⟨g, o + 1, none⟩ = some (.int .i64 f.ln) := H1.out.f.at_ 1 (by omega)
  rw [hl] at c1
  go_upto_region 22 with fail
  clear c1
  have c9 : W1.cell? ⟨g, o + 9, none⟩ = some (.int .i64 f.fi) := H1.out.f.at_ 9 (by omega)
  have c10 : W1.cell? ⟨g, o + 10, none⟩ = some (.int .i64 f.fj) := H1.out.f.at_ 10 (by omega)
  have k10 := H1.out.f.free (o + 10)
  go_upto_region 23 with fail
  have H2 := Lib.hid (H1.out.set 10 (by omega) (.int .i64 (wrap64 (wrap64 (2 * f.fi) + 1))) { f with fj := wrap64 (wrap64 (2 * f.fi) + 1) } rfl)
  clear c9 c10 k10
  generalize (W1.setCell ⟨g, o + 10, none⟩ (.int .i64 (wrap64 (wrap64 (2 * f.fi) + 1)))) = W2 at *
  clear H1
  have H3 := Lib.hid H2.out.drew
  have d10 : W2.drew.cell? ⟨g, o + 10, none⟩ = some (.int .i64 (wrap64 (wrap64 (2 * f.fi) + 1))) := H3.out.f.at_ 10 (by omega)
  have de0 : W2.drew.cell? ⟨p, 0, none⟩ = some (.int .i64 a.c.wo) := H3.out.e.m.blk.at_ 0
  have de1 : W2.drew.cell? ⟨p, 1, none⟩ = some (.int .i64 a.c.le) := H3.out.e.m.blk.at_ 1
  have de2 : W2.drew.cell? ⟨p, 2, none⟩ = some (.int .i64 a.c.cl) := H3.out.e.m.blk.at_ 2
  have de3 : W2.drew.cell? ⟨p, 3, none⟩ = some (.int .i64 a.c.ta) := H3.out.e.m.blk.at_ 3
  have de4 : W2.drew.cell? ⟨p, 4, none⟩ = some (.int .i64 a.c.de) := H3.out.e.m.blk.at_ 4
  have de5 : W2.drew.cell? ⟨p, 5, none⟩ = some (.int .i64 a.c.he) := H3.out.e.m.blk.at_ 5
  have de6 : W2.drew.cell? ⟨p, 6, none⟩ = some (.int .i64 a.c.ba) := H3.out.e.m.blk.at_ 6
  have de7 : W2.drew.cell? ⟨p, 7, none⟩ = some (.int .i64 a.c.ag) := H3.out.e.m.blk.at_ 7
  have de8 : W2.drew.cell? ⟨p, 8, none⟩ = some (.int .i64 a.c.pa) := H3.out.e.m.blk.at_ 8
  have de9 : W2.drew.cell? ⟨p, 9, none⟩ = some (.slice a.pa a.pn a.pc) := H3.out.e.m.blk.at_ 9
  have de10 : W2.drew.cell? ⟨p, 10, none⟩ = some (.slice a.sa a.sn a.sc) := H3.out.e.m.blk.at_ 10
  go_region_held3 (fun w' => w'.cell? ⟨g, o + 10, none⟩ = some (.int .i64 (wrap64 (wrap64 (2 * f.fi) + 1))) ∧ w'.cell? ⟨p, 0, none⟩ = some (.int .i64 a.c.wo) ∧ w'.cell? ⟨p, 1, none⟩ = some (.int .i64 a.c.le) ∧ w'.cell? ⟨p, 2, none⟩ = some (.int .i64 a.c.cl) ∧ w'.cell? ⟨p, 3, none⟩ = some (.int .i64 a.c.ta) ∧ w'.cell? ⟨p, 4, none⟩ = some (.int .i64 a.c.de) ∧ w'.cell? ⟨p, 5, none⟩ = some (.int .i64 a.c.he) ∧ w'.cell? ⟨p, 6, none⟩ = some (.int .i64 a.c.ba) ∧ w'.cell? ⟨p, 7, none⟩ = some (.int .i64 a.c.ag) ∧ w'.cell? ⟨p, 8, none⟩ = some (.int .i64 a.c.pa) ∧ w'.cell? ⟨p, 9, none⟩ = some (.slice a.pa a.pn a.pc) ∧ w'.cell? ⟨p, 10, none⟩ = some (.slice a.sa a.sn a.sc)) ((first | exact ⟨s10, se0, se1, se2, se3, se4, se5, se6, se7, se8, se9, se10⟩ | go_keep))
    (first
      | (go_at_call 10
         refine (slot_any hin _).mono ?_
         rintro e W4 ⟨rfl, hb⟩
         have H4 := Lib.hid (H3.out.below hb)
         have ah10 : W4.cell? ⟨g, o + 10, none⟩ = some (.int .i64 (wrap64 (wrap64 (2 * f.fi) + 1))) := H4.out.f.at_ 10 (by omega)
         have ahe0 : W4.cell? ⟨p, 0, none⟩ = some (.int .i64 a.c.wo) := H4.out.e.m.blk.at_ 0
         have ahe1 : W4.cell? ⟨p, 1, none⟩ = some (.int .i64 a.c.le) := H4.out.e.m.blk.at_ 1
         have ahe2 : W4.cell? ⟨p, 2, none⟩ = some (.int .i64 a.c.cl) := H4.out.e.m.blk.at_ 2
         have ahe3 : W4.cell? ⟨p, 3, none⟩ = some (.int .i64 a.c.ta) := H4.out.e.m.blk.at_ 3
         have ahe4 : W4.cell? ⟨p, 4, none⟩ = some (.int .i64 a.c.de) := H4.out.e.m.blk.at_ 4
         have ahe5 : W4.cell? ⟨p, 5, none⟩ = some (.int .i64 a.c.he) := H4.out.e.m.blk.at_ 5
         have ahe6 : W4.cell? ⟨p, 6, none⟩ = some (.int .i64 a.c.ba) := H4.out.e.m.blk.at_ 6
         have ahe7 : W4.cell? ⟨p, 7, none⟩ = some (.int .i64 a.c.ag) := H4.out.e.m.blk.at_ 7
         have ahe8 : W4.cell? ⟨p, 8, none⟩ = some (.int .i64 a.c.pa) := H4.out.e.m.blk.at_ 8
         have ahe9 : W4.cell? ⟨p, 9, none⟩ = some (.slice a.pa a.pn a.pc) := H4.out.e.m.blk.at_ 9
         have ahe10 : W4.cell? ⟨p, 10, none⟩ = some (.slice a.sa a.sn a.sc) := H4.out.e.m.blk.at_ 10
         clear hb)
      | (go_at_call 84
         refine (eload_any H4.out.e.m _).mono ?_
         rintro e W5 ⟨rfl, he, hf⟩
         have H5 := Lib.hid (H4.out.acc he hf)
         have bh10 : W5.cell? ⟨g, o + 10, none⟩ = some (.int .i64 (wrap64 (wrap64 (2 * f.fi) + 1))) := H5.out.f.at_ 10 (by omega)
         have bhe0 : W5.cell? ⟨p, 0, none⟩ = some (.int .i64 a.c.wo) := H5.out.e.m.blk.at_ 0
         have bhe1 : W5.cell? ⟨p, 1, none⟩ = some (.int .i64 a.c.le) := H5.out.e.m.blk.at_ 1
         have bhe2 : W5.cell? ⟨p, 2, none⟩ = some (.int .i64 a.c.cl) := H5.out.e.m.blk.at_ 2
         have bhe3 : W5.cell? ⟨p, 3, none⟩ = some (.int .i64 a.c.ta) := H5.out.e.m.blk.at_ 3
         have bhe4 : W5.cell? ⟨p, 4, none⟩ = some (.int .i64 a.c.de) := H5.out.e.m.blk.at_ 4
         have bhe5 : W5.cell? ⟨p, 5, none⟩ = some (.int .i64 a.c.he) := H5.out.e.m.blk.at_ 5
         have bhe6 : W5.cell? ⟨p, 6, none⟩ = some (.int .i64 a.c.ba) := H5.out.e.m.blk.at_ 6
         have bhe7 : W5.cell? ⟨p, 7, none⟩ = some (.int .i64 a.c.ag) := H5.out.e.m.blk.at_ 7
         have bhe8 : W5.cell? ⟨p, 8, none⟩ = some (.int .i64 a.c.pa) := H5.out.e.m.blk.at_ 8
         have bhe9 : W5.cell? ⟨p, 9, none⟩ = some (.slice a.pa a.pn a.pc) := H5.out.e.m.blk.at_ 9
         have bhe10 : W5.cell? ⟨p, 10, none⟩ = some (.slice a.sa a.sn a.sc) := H5.out.e.m.blk.at_ 10
         have c15 : W5.cell? ⟨g, o + 15, none⟩ = some (.int .u64 f.fw) := H5.out.f.at_ 15 (by omega)
         have k15 := H5.out.f.free (o + 15)
         have s10 : (W5.setCell ⟨g, o + 15, none⟩ (.int .u64 (s.old (rSlot a.c (wrap64 (wrap64 (2 * f.fi) + 1)))))).cell? ⟨g, o + 10, none⟩ = some (.int .i64 (wrap64 (wrap64 (2 * f.fi) + 1))) := by rw [World.cell?_setCell_other _ _ _ _ (by simp)]; exact bh10
         have se0 : (W5.setCell ⟨g, o + 15, none⟩ (.int .u64 (s.old (rSlot a.c (wrap64 (wrap64 (2 * f.fi) + 1)))))).cell? ⟨p, 0, none⟩ = some (.int .i64 a.c.wo) := by rw [World.cell?_setCell_other _ _ _ _ (by simp [hgp])]; exact bhe0
         have se1 : (W5.setCell ⟨g, o + 15, none⟩ (.int .u64 (s.old (rSlot a.c (wrap64 (wrap64 (2 * f.fi) + 1)))))).cell? ⟨p, 1, none⟩ = some (.int .i64 a.c.le) := by rw [World.cell?_setCell_other _ _ _ _ (by simp [hgp])]; exact bhe1
         have se2 : (W5.setCell ⟨g, o + 15, none⟩ (.int .u64 (s.old (rSlot a.c (wrap64 (wrap64 (2 * f.fi) + 1)))))).cell? ⟨p, 2, none⟩ = some (.int .i64 a.c.cl) := by rw [World.cell?_setCell_other _ _ _ _ (by simp [hgp])]; exact bhe2
         have se3 : (W5.setCell ⟨g, o + 15, none⟩ (.int .u64 (s.old (rSlot a.c (wrap64 (wrap64 (2 * f.fi) + 1)))))).cell? ⟨p, 3, none⟩ = some (.int .i64 a.c.ta) := by rw [World.cell?_setCell_other _ _ _ _ (by simp [hgp])]; exact bhe3
         have se4 : (W5.setCell ⟨g, o + 15, none⟩ (.int .u64 (s.old (rSlot a.c (wrap64 (wrap64 (2 * f.fi) + 1)))))).cell? ⟨p, 4, none⟩ = some (.int .i64 a.c.de) := by rw [World.cell?_setCell_other _ _ _ _ (by simp [hgp])]; exact bhe4
         have se5 : (W5.setCell ⟨g, o + 15, none⟩ (.int .u64 (s.old (rSlot a.c (wrap64 (wrap64 (2 * f.fi) + 1)))))).cell? ⟨p, 5, none⟩ = some (.int .i64 a.c.he) := by rw [World.cell?_setCell_other _ _ _ _ (by simp [hgp])]; exact bhe5
         have se6 : (W5.setCell ⟨g, o + 15, none⟩ (.int .u64 (s.old (rSlot a.c (wrap64 (wrap64 (2 * f.fi) + 1)))))).cell? ⟨p, 6, none⟩ = some (.int .i64 a.c.ba) := by rw [World.cell?_setCell_other _ _ _ _ (by simp [hgp])]; exact bhe6
         have se7 : (W5.setCell ⟨g, o + 15, none⟩ (.int .u64 (s.old (rSlot a.c (wrap64 (wrap64 (2 * f.fi) + 1)))))).cell? ⟨p, 7, none⟩ = some (.int .i64 a.c.ag) := by rw [World.cell?_setCell_other _ _ _ _ (by simp [hgp])]; exact bhe7
         have se8 : (W5.setCell ⟨g, o + 15, none⟩ (.int .u64 (s.old (rSlot a.c (wrap64 (wrap64 (2 * f.fi) + 1)))))).cell? ⟨p, 8, none⟩ = some (.int .i64 a.c.pa) := by rw [World.cell?_setCell_other _ _ _ _ (by simp [hgp])]; exact bhe8
         have se9 : (W5.setCell ⟨g, o + 15, none⟩ (.int .u64 (s.old (rSlot a.c (wrap64 (wrap64 (2 * f.fi) + 1)))))).cell? ⟨p, 9, none⟩ = some (.slice a.pa a.pn a.pc) := by rw [World.cell?_setCell_other _ _ _ _ (by simp [hgp])]; exact bhe9
         have se10 : (W5.setCell ⟨g, o + 15, none⟩ (.int .u64 (s.old (rSlot a.c (wrap64 (wrap64 (2 * f.fi) + 1)))))).cell? ⟨p, 10, none⟩ = some (.slice a.sa a.sn a.sc) := by rw [World.cell?_setCell_other _ _ _ _ (by simp [hgp])]; exact bhe10
         clear he hf))
  clear d10 de0 de1 de2 de3 de4 de5 de6 de7 de8 de9 de10 ah10 ahe0 ahe1 ahe2 ahe3 ahe4 ahe5 ahe6 ahe7 ahe8 ahe9 ahe10 bh10 bhe0 bhe1 bhe2 bhe3 bhe4 bhe5 bhe6 bhe7 bhe8 bhe9 bhe10 c15 k15 s10 se0 se1 se2 se3 se4 se5 se6 se7 se8 se9 se10 H2 H3 H4
  have H6 := Lib.hid (H5.out.set 15 (by omega) (.int .u64 (s.old (rSlot a.c (wrap64 (wrap64 (2 * f.fi) + 1))))) { f with fj := wrap64 (wrap64 (2 * f.fi) + 1), fw := s.old (rSlot a.c (wrap64 (wrap64 (2 * f.fi) + 1))) } rfl)
  generalize (W5.setCell ⟨g, o + 15, none⟩ (.int .u64 (s.old (rSlot a.c (wrap64 (wrap64 (2 * f.fi) + 1)))))) = W6 at *
  clear H5
  have HP4 : wrap64 (wrap64 (2 * f.fi) + 2) < wrap64 (f.fn - 1) := by have := hc.out; omega
  have HP3 : IntKind.i64.wrap (IntKind.i64.wrap (2 * f.fi) + 2) < IntKind.i64.wrap (f.fn - 1) := by simp only [IntWalk.i64_left]; exact HP4
  have HP1 : ¬ (wrap64 (f.fn - 1) ≤ wrap64 (wrap64 (2 * f.fi) + 2)) := by omega
  have HP2 : ¬ (IntKind.i64.wrap (f.fn - 1) ≤ IntKind.i64.wrap (IntKind.i64.wrap (2 * f.fi) + 2)) := by omega
  go_upto_region 24 with fail
  have c9 : W6.cell? ⟨g, o + 9, none⟩ = some (.int .i64 f.fi) := H6.out.f.at_ 9 (by omega)
  have c11 : W6.cell? ⟨g, o + 11, none⟩ = some (.int .i64 f.fn) := H6.out.f.at_ 11 (by omega)
  go_quiet (fail)
  have H7 := Lib.hid (H6.out.drewN nq)
  clear c9 c11
  generalize W6.drewN nq = W7 at *
  clear H6
  go_upto_region 35 with fail
  have c1 : W7.cell? ⟨g, o + 1, none⟩ = some (.int .i64 f.ln) := H7.out.f.at_ 1 (by omega)
  have k1 := H7.out.f.free (o + 1)
  have r0 := H7.out.r.at_ 0
  have q0 := H7.out.r.free 0
  have r1 := H7.out.r.at_ 1
  have q1 := H7.out.r.free 1
  have r2 := H7.out.r.at_ 2
  have q2 := H7.out.r.free 2
  rw [hl] at c1
  go_wp2
  have H8 := Lib.hid (H7.out.set 1 (by omega) (.int .i64 (6)) { f with fj := wrap64 (wrap64 (2 * f.fi) + 1), fw := s.old (rSlot a.c (wrap64 (wrap64 (2 * f.fi) + 1))), ln := 6 } rfl)
  clear c1 k1 r0 q0 r1 q1 r2 q2
  refine bodyPost_ret (results_cell_row (P := Tryz.prog) Tryz.results89 _ _ w.heap.size 140 _ (0, 0) _ rfl (H8.out.res .none) Tryz.underlying140 rfl (by kernel_rfl)) rfl ?_
  exact H8.out.done .none
set_option maxRecDepth 100000 in
set_option maxHeartbeats 2000000 in
theorem remove_6y (he : EnvF B w p a s es rs) (hf : FrameP w g o pre post f) (hB : B ≤ g) (hin : CfgIn a.c) (hu : f.fu = (U : Int)) (hU : U < 18446744073709551616) (hl : f.ln = 6) (hc : Hid (s.old (rSlot a.c (wrap64 (wrap64 (2 * f.fi) + 2))) < f.fw)) :
    Calls Tryz.prog 89 #[.pointer (some ⟨p, 0, none⟩), .pointer (some ⟨g, o, none⟩)] w (Line B p g o pre post a .none (s.go 1 (rSlot a.c (wrap64 (wrap64 (2 * f.fi) + 2))) id) es rs { f with fw := s.old (rSlot a.c (wrap64 (wrap64 (2 * f.fi) + 2))), fj := wrap64 (wrap64 (2 * f.fi) + 2), ln := lessN (s.old (rSlot a.c (wrap64 (wrap64 (2 * f.fi) + 2)))) f.fv } w) := by
  have h0 := LSt.start he hf hB
  have H0 := Lib.hid h0
  have hng : g ≠ w.heap.size := by have := h0.lf; omega
  have hng1 := hng.symm
  have hgp : g ≠ p := (h0.f.ne h0.e.m).1
  clear he hf hB
  have HU := Lib.hid hu
  have HUB := Lib.hid hU
  clear hu hU
  obtain ⟨z, hz⟩ : ∃ z, s.old (rSlot a.c (wrap64 (wrap64 (2 * f.fi) + 2))) = z := ⟨_, rfl⟩
  rw [hz] at hc ⊢
  have HZ := Lib.hid (show s.old (rSlot a.c (IntKind.i64.wrap (IntKind.i64.wrap (2 * f.fi) + 2))) = z by rw [IntWalk.i64_left, IntWalk.i64_left]; exact hz)
  clear hz
  have c1 : (w.alloc (.cells (rcells' .none) 140)).cell? ⟨g, o + 1, none⟩ = some (.int .i64 f.ln) := H0.out.f.at_ 1 (by omega)
  have c13 : (w.alloc (.cells (rcells' .none) 140)).cell? ⟨g, o + 13, none⟩ = some (.int .u64 f.fu) := H0.out.f.at_ 13 (by omega)
  rw [HU.out] at c13
  rw [hl] at c1
  go_enter Tryz.func89, Tryz.ntmps89
  go_upto_region 1 with fail
  generalize (w.alloc (.cells (rcells' .none) 140)) = W0 at *
  clear h0
  go_wp2_with fail
  (with_reducible refine (runpack_any U HUB.out _).mono ?_)
  rintro e W1 ⟨n1, rfl, rfl⟩
  have H1 := Lib.hid (H0.out.drewN n1)
  clear c1 c13
  clear H0
  generalize W0.drewN n1 = W1 at *
  have c1 : W1.cell? ⟨g, o + 1, none⟩ = some (.int .i64 f.ln) := H1.out.f.at_ 1 (by omega)
  rw [hl] at c1
  go_upto_region 27 with fail
  clear c1
  have H2 := Lib.hid H1.out.drew
  have d9 : W1.drew.cell? ⟨g, o + 9, none⟩ = some (.int .i64 f.fi) := H2.out.f.at_ 9 (by omega)
  have de0 : W1.drew.cell? ⟨p, 0, none⟩ = some (.int .i64 a.c.wo) := H2.out.e.m.blk.at_ 0
  have de1 : W1.drew.cell? ⟨p, 1, none⟩ = some (.int .i64 a.c.le) := H2.out.e.m.blk.at_ 1
  have de2 : W1.drew.cell? ⟨p, 2, none⟩ = some (.int .i64 a.c.cl) := H2.out.e.m.blk.at_ 2
  have de3 : W1.drew.cell? ⟨p, 3, none⟩ = some (.int .i64 a.c.ta) := H2.out.e.m.blk.at_ 3
  have de4 : W1.drew.cell? ⟨p, 4, none⟩ = some (.int .i64 a.c.de) := H2.out.e.m.blk.at_ 4
  have de5 : W1.drew.cell? ⟨p, 5, none⟩ = some (.int .i64 a.c.he) := H2.out.e.m.blk.at_ 5
  have de6 : W1.drew.cell? ⟨p, 6, none⟩ = some (.int .i64 a.c.ba) := H2.out.e.m.blk.at_ 6
  have de7 : W1.drew.cell? ⟨p, 7, none⟩ = some (.int .i64 a.c.ag) := H2.out.e.m.blk.at_ 7
  have de8 : W1.drew.cell? ⟨p, 8, none⟩ = some (.int .i64 a.c.pa) := H2.out.e.m.blk.at_ 8
  have de9 : W1.drew.cell? ⟨p, 9, none⟩ = some (.slice a.pa a.pn a.pc) := H2.out.e.m.blk.at_ 9
  have de10 : W1.drew.cell? ⟨p, 10, none⟩ = some (.slice a.sa a.sn a.sc) := H2.out.e.m.blk.at_ 10
  go_region_held3 (fun w' => w'.cell? ⟨g, o + 9, none⟩ = some (.int .i64 f.fi) ∧ w'.cell? ⟨p, 0, none⟩ = some (.int .i64 a.c.wo) ∧ w'.cell? ⟨p, 1, none⟩ = some (.int .i64 a.c.le) ∧ w'.cell? ⟨p, 2, none⟩ = some (.int .i64 a.c.cl) ∧ w'.cell? ⟨p, 3, none⟩ = some (.int .i64 a.c.ta) ∧ w'.cell? ⟨p, 4, none⟩ = some (.int .i64 a.c.de) ∧ w'.cell? ⟨p, 5, none⟩ = some (.int .i64 a.c.he) ∧ w'.cell? ⟨p, 6, none⟩ = some (.int .i64 a.c.ba) ∧ w'.cell? ⟨p, 7, none⟩ = some (.int .i64 a.c.ag) ∧ w'.cell? ⟨p, 8, none⟩ = some (.int .i64 a.c.pa) ∧ w'.cell? ⟨p, 9, none⟩ = some (.slice a.pa a.pn a.pc) ∧ w'.cell? ⟨p, 10, none⟩ = some (.slice a.sa a.sn a.sc)) (go_keep)
    (first
      | (go_at_call 10
         refine (slot_any hin _).mono ?_
         rintro e W3 ⟨rfl, hb⟩
         have H3 := Lib.hid (H2.out.below hb)
         have ah9 : W3.cell? ⟨g, o + 9, none⟩ = some (.int .i64 f.fi) := H3.out.f.at_ 9 (by omega)
         have ahe0 : W3.cell? ⟨p, 0, none⟩ = some (.int .i64 a.c.wo) := H3.out.e.m.blk.at_ 0
         have ahe1 : W3.cell? ⟨p, 1, none⟩ = some (.int .i64 a.c.le) := H3.out.e.m.blk.at_ 1
         have ahe2 : W3.cell? ⟨p, 2, none⟩ = some (.int .i64 a.c.cl) := H3.out.e.m.blk.at_ 2
         have ahe3 : W3.cell? ⟨p, 3, none⟩ = some (.int .i64 a.c.ta) := H3.out.e.m.blk.at_ 3
         have ahe4 : W3.cell? ⟨p, 4, none⟩ = some (.int .i64 a.c.de) := H3.out.e.m.blk.at_ 4
         have ahe5 : W3.cell? ⟨p, 5, none⟩ = some (.int .i64 a.c.he) := H3.out.e.m.blk.at_ 5
         have ahe6 : W3.cell? ⟨p, 6, none⟩ = some (.int .i64 a.c.ba) := H3.out.e.m.blk.at_ 6
         have ahe7 : W3.cell? ⟨p, 7, none⟩ = some (.int .i64 a.c.ag) := H3.out.e.m.blk.at_ 7
         have ahe8 : W3.cell? ⟨p, 8, none⟩ = some (.int .i64 a.c.pa) := H3.out.e.m.blk.at_ 8
         have ahe9 : W3.cell? ⟨p, 9, none⟩ = some (.slice a.pa a.pn a.pc) := H3.out.e.m.blk.at_ 9
         have ahe10 : W3.cell? ⟨p, 10, none⟩ = some (.slice a.sa a.sn a.sc) := H3.out.e.m.blk.at_ 10
         clear hb)
      | (go_at_call 84
         refine (eload_any H3.out.e.m _).mono ?_
         rintro e W4 ⟨rfl, he, hf⟩
         have H4 := Lib.hid (H3.out.acc he hf)
         have bh9 : W4.cell? ⟨g, o + 9, none⟩ = some (.int .i64 f.fi) := H4.out.f.at_ 9 (by omega)
         have bhe0 : W4.cell? ⟨p, 0, none⟩ = some (.int .i64 a.c.wo) := H4.out.e.m.blk.at_ 0
         have bhe1 : W4.cell? ⟨p, 1, none⟩ = some (.int .i64 a.c.le) := H4.out.e.m.blk.at_ 1
         have bhe2 : W4.cell? ⟨p, 2, none⟩ = some (.int .i64 a.c.cl) := H4.out.e.m.blk.at_ 2
         have bhe3 : W4.cell? ⟨p, 3, none⟩ = some (.int .i64 a.c.ta) := H4.out.e.m.blk.at_ 3
         have bhe4 : W4.cell? ⟨p, 4, none⟩ = some (.int .i64 a.c.de) := H4.out.e.m.blk.at_ 4
         have bhe5 : W4.cell? ⟨p, 5, none⟩ = some (.int .i64 a.c.he) := H4.out.e.m.blk.at_ 5
         have bhe6 : W4.cell? ⟨p, 6, none⟩ = some (.int .i64 a.c.ba) := H4.out.e.m.blk.at_ 6
         have bhe7 : W4.cell? ⟨p, 7, none⟩ = some (.int .i64 a.c.ag) := H4.out.e.m.blk.at_ 7
         have bhe8 : W4.cell? ⟨p, 8, none⟩ = some (.int .i64 a.c.pa) := H4.out.e.m.blk.at_ 8
         have bhe9 : W4.cell? ⟨p, 9, none⟩ = some (.slice a.pa a.pn a.pc) := H4.out.e.m.blk.at_ 9
         have bhe10 : W4.cell? ⟨p, 10, none⟩ = some (.slice a.sa a.sn a.sc) := H4.out.e.m.blk.at_ 10
         clear he hf))
  clear d9 de0 de1 de2 de3 de4 de5 de6 de7 de8 de9 de10 ah9 ahe0 ahe1 ahe2 ahe3 ahe4 ahe5 ahe6 ahe7 ahe8 ahe9 ahe10 bh9 bhe0 bhe1 bhe2 bhe3 bhe4 bhe5 bhe6 bhe7 bhe8 bhe9 bhe10 H1 H2 H3
  rw [HZ.out]
  simp only [IntWalk.i64_left] at H4
  have c15 : W4.cell? ⟨g, o + 15, none⟩ = some (.int .u64 f.fw) := H4.out.f.at_ 15 (by omega)
  have HP1 : z < f.fw := hc.out
  go_upto_region 29 with fail
  have c9 : W4.cell? ⟨g, o + 9, none⟩ = some (.int .i64 f.fi) := H4.out.f.at_ 9 (by omega)
  have c10 : W4.cell? ⟨g, o + 10, none⟩ = some (.int .i64 f.fj) := H4.out.f.at_ 10 (by omega)
  have k15 := H4.out.f.free (o + 15)
  have k10 := H4.out.f.free (o + 10)
  go_upto_region 30 with fail
  have H5 := Lib.hid ((H4.out.set 15 (by omega) (.int .u64 (z)) { f with fw := z } rfl).set 10 (by omega) (.int .i64 (wrap64 (wrap64 (2 * f.fi) + 2))) { f with fw := z, fj := wrap64 (wrap64 (2 * f.fi) + 2) } rfl)
  clear c15 c9 c10 k15 k10
  generalize ((W4.setCell ⟨g, o + 15, none⟩ (.int .u64 (z))).setCell ⟨g, o + 10, none⟩ (.int .i64 (wrap64 (wrap64 (2 * f.fi) + 2)))) = W5 at *
  clear H4
  go_wp2_with fail
  (with_reducible refine (lesser_any H5.out.f).mono ?_)
  rintro e W6 ⟨rfl, n6, rfl⟩
  have H6 := Lib.hid (H5.out.drewN n6)
  clear H5
  generalize W5.drewN n6 = W6 at *
  go_upto_region 35 with fail
  have c1 : W6.cell? ⟨g, o + 1, none⟩ = some (.int .i64 f.ln) := H6.out.f.at_ 1 (by omega)
  have k1 := H6.out.f.free (o + 1)
  have r0 := H6.out.r.at_ 0
  have q0 := H6.out.r.free 0
  have r1 := H6.out.r.at_ 1
  have q1 := H6.out.r.free 1
  have r2 := H6.out.r.at_ 2
  have q2 := H6.out.r.free 2
  rw [hl] at c1
  go_wp2
  have H7 := Lib.hid (H6.out.set 1 (by omega) (.int .i64 (lessN z f.fv)) { f with fw := z, fj := wrap64 (wrap64 (2 * f.fi) + 2), ln := lessN z f.fv } rfl)
  clear c1 k1 r0 q0 r1 q1 r2 q2
  refine bodyPost_ret (results_cell_row (P := Tryz.prog) Tryz.results89 _ _ w.heap.size 140 _ (0, 0) _ rfl (H7.out.res .none) Tryz.underlying140 rfl (by kernel_rfl)) rfl ?_
  exact H7.out.done .none
set_option maxRecDepth 100000 in
set_option maxHeartbeats 2000000 in
theorem remove_6n (he : EnvF B w p a s es rs) (hf : FrameP w g o pre post f) (hB : B ≤ g) (hin : CfgIn a.c) (hu : f.fu = (U : Int)) (hU : U < 18446744073709551616) (hl : f.ln = 6) (hc : Hid (¬ s.old (rSlot a.c (wrap64 (wrap64 (2 * f.fi) + 2))) < f.fw)) :
    Calls Tryz.prog 89 #[.pointer (some ⟨p, 0, none⟩), .pointer (some ⟨g, o, none⟩)] w (Line B p g o pre post a .none (s.go 1 (rSlot a.c (wrap64 (wrap64 (2 * f.fi) + 2))) id) es rs { f with ln := lessN f.fw f.fv } w) := by
  have h0 := LSt.start he hf hB
  have H0 := Lib.hid h0
  have hng : g ≠ w.heap.size := by have := h0.lf; omega
  have hng1 := hng.symm
  have hgp : g ≠ p := (h0.f.ne h0.e.m).1
  clear he hf hB
  have HU := Lib.hid hu
  have HUB := Lib.hid hU
  clear hu hU
  obtain ⟨z, hz⟩ : ∃ z, s.old (rSlot a.c (wrap64 (wrap64 (2 * f.fi) + 2))) = z := ⟨_, rfl⟩
  rw [hz] at hc
  have HZ := Lib.hid (show s.old (rSlot a.c (IntKind.i64.wrap (IntKind.i64.wrap (2 * f.fi) + 2))) = z by rw [IntWalk.i64_left, IntWalk.i64_left]; exact hz)
  clear hz
  have c1 : (w.alloc (.cells (rcells' .none) 140)).cell? ⟨g, o + 1, none⟩ = some (.int .i64 f.ln) := H0.out.f.at_ 1 (by omega)
  have c13 : (w.alloc (.cells (rcells' .none) 140)).cell? ⟨g, o + 13, none⟩ = some (.int .u64 f.fu) := H0.out.f.at_ 13 (by omega)
  rw [HU.out] at c13
  rw [hl] at c1
  go_enter Tryz.func89, Tryz.ntmps89
  go_upto_region 1 with fail
  generalize (w.alloc (.cells (rcells' .none) 140)) = W0 at *
  clear h0
  go_wp2_with fail
  (with_reducible refine (runpack_any U HUB.out _).mono ?_)
  rintro e W1 ⟨n1, rfl, rfl⟩
  have H1 := Lib.hid (H0.out.drewN n1)
  clear c1 c13
  clear H0
  generalize W0.drewN n1 = W1 at *
  have c1 : W1.cell? ⟨g, o + 1, none⟩ = some (.int .i64 f.ln) := H1.out.f.at_ 1 (by omega)
  rw [hl] at c1
  go_upto_region 27 with fail
  clear c1
  have H2 := Lib.hid H1.out.drew
  have d9 : W1.drew.cell? ⟨g, o + 9, none⟩ = some (.int .i64 f.fi) := H2.out.f.at_ 9 (by omega)
  have de0 : W1.drew.cell? ⟨p, 0, none⟩ = some (.int .i64 a.c.wo) := H2.out.e.m.blk.at_ 0
  have de1 : W1.drew.cell? ⟨p, 1, none⟩ = some (.int .i64 a.c.le) := H2.out.e.m.blk.at_ 1
  have de2 : W1.drew.cell? ⟨p, 2, none⟩ = some (.int .i64 a.c.cl) := H2.out.e.m.blk.at_ 2
  have de3 : W1.drew.cell? ⟨p, 3, none⟩ = some (.int .i64 a.c.ta) := H2.out.e.m.blk.at_ 3
  have de4 : W1.drew.cell? ⟨p, 4, none⟩ = some (.int .i64 a.c.de) := H2.out.e.m.blk.at_ 4
  have de5 : W1.drew.cell? ⟨p, 5, none⟩ = some (.int .i64 a.c.he) := H2.out.e.m.blk.at_ 5
  have de6 : W1.drew.cell? ⟨p, 6, none⟩ = some (.int .i64 a.c.ba) := H2.out.e.m.blk.at_ 6
  have de7 : W1.drew.cell? ⟨p, 7, none⟩ = some (.int .i64 a.c.ag) := H2.out.e.m.blk.at_ 7
  have de8 : W1.drew.cell? ⟨p, 8, none⟩ = some (.int .i64 a.c.pa) := H2.out.e.m.blk.at_ 8
  have de9 : W1.drew.cell? ⟨p, 9, none⟩ = some (.slice a.pa a.pn a.pc) := H2.out.e.m.blk.at_ 9
  have de10 : W1.drew.cell? ⟨p, 10, none⟩ = some (.slice a.sa a.sn a.sc) := H2.out.e.m.blk.at_ 10
  go_region_held3 (fun w' => w'.cell? ⟨g, o + 9, none⟩ = some (.int .i64 f.fi) ∧ w'.cell? ⟨p, 0, none⟩ = some (.int .i64 a.c.wo) ∧ w'.cell? ⟨p, 1, none⟩ = some (.int .i64 a.c.le) ∧ w'.cell? ⟨p, 2, none⟩ = some (.int .i64 a.c.cl) ∧ w'.cell? ⟨p, 3, none⟩ = some (.int .i64 a.c.ta) ∧ w'.cell? ⟨p, 4, none⟩ = some (.int .i64 a.c.de) ∧ w'.cell? ⟨p, 5, none⟩ = some (.int .i64 a.c.he) ∧ w'.cell? ⟨p, 6, none⟩ = some (.int .i64 a.c.ba) ∧ w'.cell? ⟨p, 7, none⟩ = some (.int .i64 a.c.ag) ∧ w'.cell? ⟨p, 8, none⟩ = some (.int .i64 a.c.pa) ∧ w'.cell? ⟨p, 9, none⟩ = some (.slice a.pa a.pn a.pc) ∧ w'.cell? ⟨p, 10, none⟩ = some (.slice a.sa a.sn a.sc)) (go_keep)
    (first
      | (go_at_call 10
         refine (slot_any hin _).mono ?_
         rintro e W3 ⟨rfl, hb⟩
         have H3 := Lib.hid (H2.out.below hb)
         have ah9 : W3.cell? ⟨g, o + 9, none⟩ = some (.int .i64 f.fi) := H3.out.f.at_ 9 (by omega)
         have ahe0 : W3.cell? ⟨p, 0, none⟩ = some (.int .i64 a.c.wo) := H3.out.e.m.blk.at_ 0
         have ahe1 : W3.cell? ⟨p, 1, none⟩ = some (.int .i64 a.c.le) := H3.out.e.m.blk.at_ 1
         have ahe2 : W3.cell? ⟨p, 2, none⟩ = some (.int .i64 a.c.cl) := H3.out.e.m.blk.at_ 2
         have ahe3 : W3.cell? ⟨p, 3, none⟩ = some (.int .i64 a.c.ta) := H3.out.e.m.blk.at_ 3
         have ahe4 : W3.cell? ⟨p, 4, none⟩ = some (.int .i64 a.c.de) := H3.out.e.m.blk.at_ 4
         have ahe5 : W3.cell? ⟨p, 5, none⟩ = some (.int .i64 a.c.he) := H3.out.e.m.blk.at_ 5
         have ahe6 : W3.cell? ⟨p, 6, none⟩ = some (.int .i64 a.c.ba) := H3.out.e.m.blk.at_ 6
         have ahe7 : W3.cell? ⟨p, 7, none⟩ = some (.int .i64 a.c.ag) := H3.out.e.m.blk.at_ 7
         have ahe8 : W3.cell? ⟨p, 8, none⟩ = some (.int .i64 a.c.pa) := H3.out.e.m.blk.at_ 8
         have ahe9 : W3.cell? ⟨p, 9, none⟩ = some (.slice a.pa a.pn a.pc) := H3.out.e.m.blk.at_ 9
         have ahe10 : W3.cell? ⟨p, 10, none⟩ = some (.slice a.sa a.sn a.sc) := H3.out.e.m.blk.at_ 10
         clear hb)
      | (go_at_call 84
         refine (eload_any H3.out.e.m _).mono ?_
         rintro e W4 ⟨rfl, he, hf⟩
         have H4 := Lib.hid (H3.out.acc he hf)
         have bh9 : W4.cell? ⟨g, o + 9, none⟩ = some (.int .i64 f.fi) := H4.out.f.at_ 9 (by omega)
         have bhe0 : W4.cell? ⟨p, 0, none⟩ = some (.int .i64 a.c.wo) := H4.out.e.m.blk.at_ 0
         have bhe1 : W4.cell? ⟨p, 1, none⟩ = some (.int .i64 a.c.le) := H4.out.e.m.blk.at_ 1
         have bhe2 : W4.cell? ⟨p, 2, none⟩ = some (.int .i64 a.c.cl) := H4.out.e.m.blk.at_ 2
         have bhe3 : W4.cell? ⟨p, 3, none⟩ = some (.int .i64 a.c.ta) := H4.out.e.m.blk.at_ 3
         have bhe4 : W4.cell? ⟨p, 4, none⟩ = some (.int .i64 a.c.de) := H4.out.e.m.blk.at_ 4
         have bhe5 : W4.cell? ⟨p, 5, none⟩ = some (.int .i64 a.c.he) := H4.out.e.m.blk.at_ 5
         have bhe6 : W4.cell? ⟨p, 6, none⟩ = some (.int .i64 a.c.ba) := H4.out.e.m.blk.at_ 6
         have bhe7 : W4.cell? ⟨p, 7, none⟩ = some (.int .i64 a.c.ag) := H4.out.e.m.blk.at_ 7
         have bhe8 : W4.cell? ⟨p, 8, none⟩ = some (.int .i64 a.c.pa) := H4.out.e.m.blk.at_ 8
         have bhe9 : W4.cell? ⟨p, 9, none⟩ = some (.slice a.pa a.pn a.pc) := H4.out.e.m.blk.at_ 9
         have bhe10 : W4.cell? ⟨p, 10, none⟩ = some (.slice a.sa a.sn a.sc) := H4.out.e.m.blk.at_ 10
         clear he hf))
  clear d9 de0 de1 de2 de3 de4 de5 de6 de7 de8 de9 de10 ah9 ahe0 ahe1 ahe2 ahe3 ahe4 ahe5 ahe6 ahe7 ahe8 ahe9 ahe10 bh9 bhe0 bhe1 bhe2 bhe3 bhe4 bhe5 bhe6 bhe7 bhe8 bhe9 bhe10 H1 H2 H3
  rw [HZ.out]
  simp only [IntWalk.i64_left] at H4
  have c15 : W4.cell? ⟨g, o + 15, none⟩ = some (.int .u64 f.fw) := H4.out.f.at_ 15 (by omega)
  have HP1 : ¬ z < f.fw := by have := hc.out; omega
  go_wp2_with fail
  (with_reducible refine (lesser_any H4.out.f).mono ?_)
  rintro e W5 ⟨rfl, n5, rfl⟩
  have H5 := Lib.hid (H4.out.drewN n5)
  clear c15
  clear H4
  generalize W4.drewN n5 = W5 at *
  go_upto_region 35 with fail
  have c1 : W5.cell? ⟨g, o + 1, none⟩ = some (.int .i64 f.ln) := H5.out.f.at_ 1 (by omega)
  have k1 := H5.out.f.free (o + 1)
  have r0 := H5.out.r.at_ 0
  have q0 := H5.out.r.free 0
  have r1 := H5.out.r.at_ 1
  have q1 := H5.out.r.free 1
  have r2 := H5.out.r.at_ 2
  have q2 := H5.out.r.free 2
  rw [hl] at c1
  go_wp2
  have H6 := Lib.hid (H5.out.set 1 (by omega) (.int .i64 (lessN f.fw f.fv)) { f with ln := lessN f.fw f.fv } rfl)
  clear c1 k1 r0 q0 r1 q1 r2 q2
  refine bodyPost_ret (results_cell_row (P := Tryz.prog) Tryz.results89 _ _ w.heap.size 140 _ (0, 0) _ rfl (H6.out.res .none) Tryz.underlying140 rfl (by kernel_rfl)) rfl ?_
  exact H6.out.done .none
set_option maxRecDepth 100000 in
set_option maxHeartbeats 2000000 in
theorem remove_7 (he : EnvF B w p a s es rs) (hf : FrameP w g o pre post f) (hB : B ≤ g) (hin : CfgIn a.c) (hu : f.fu = (U : Int)) (hU : U < 18446744073709551616) (hl : f.ln = 7)  :
    Calls Tryz.prog 89 #[.pointer (some ⟨p, 0, none⟩), .pointer (some ⟨g, o, none⟩)] w (Line B p g o pre post a .none (s.go 2 (rSlot a.c f.fi) (fun _ => f.fw)) es rs { f with fi := f.fj, ln := childN f.fj f.fn } w) := by
  have h0 := LSt.start he hf hB
  have H0 := Lib.hid h0
  have hng : g ≠ w.heap.size := by have := h0.lf; omega
  have hng1 := hng.symm
  have hgp : g ≠ p := (h0.f.ne h0.e.m).1
  clear he hf hB
  have HU := Lib.hid hu
  have HUB := Lib.hid hU
  clear hu hU
  have c1 : (w.alloc (.cells (rcells' .none) 140)).cell? ⟨g, o + 1, none⟩ = some (.int .i64 f.ln) := H0.out.f.at_ 1 (by omega)
  have c13 : (w.alloc (.cells (rcells' .none) 140)).cell? ⟨g, o + 13, none⟩ = some (.int .u64 f.fu) := H0.out.f.at_ 13 (by omega)
  rw [HU.out] at c13
  rw [hl] at c1
  go_enter Tryz.func89, Tryz.ntmps89
  go_upto_region 1 with fail
  generalize (w.alloc (.cells (rcells' .none) 140)) = W0 at *
  clear h0
  go_wp2_with fail
  (with_reducible refine (runpack_any U HUB.out _).mono ?_)
  rintro e W1 ⟨n1, rfl, rfl⟩
  have H1 := Lib.hid (H0.out.drewN n1)
  clear c1 c13
  clear H0
  generalize W0.drewN n1 = W1 at *
  have c1 : W1.cell? ⟨g, o + 1, none⟩ = some (.int .i64 f.ln) := H1.out.f.at_ 1 (by omega)
  rw [hl] at c1
  go_upto_region 32 with fail
  clear c1
  have H2 := Lib.hid H1.out.drew
  have d9 : W1.drew.cell? ⟨g, o + 9, none⟩ = some (.int .i64 f.fi) := H2.out.f.at_ 9 (by omega)
  have d15 : W1.drew.cell? ⟨g, o + 15, none⟩ = some (.int .u64 f.fw) := H2.out.f.at_ 15 (by omega)
  have de0 : W1.drew.cell? ⟨p, 0, none⟩ = some (.int .i64 a.c.wo) := H2.out.e.m.blk.at_ 0
  have de1 : W1.drew.cell? ⟨p, 1, none⟩ = some (.int .i64 a.c.le) := H2.out.e.m.blk.at_ 1
  have de2 : W1.drew.cell? ⟨p, 2, none⟩ = some (.int .i64 a.c.cl) := H2.out.e.m.blk.at_ 2
  have de3 : W1.drew.cell? ⟨p, 3, none⟩ = some (.int .i64 a.c.ta) := H2.out.e.m.blk.at_ 3
  have de4 : W1.drew.cell? ⟨p, 4, none⟩ = some (.int .i64 a.c.de) := H2.out.e.m.blk.at_ 4
  have de5 : W1.drew.cell? ⟨p, 5, none⟩ = some (.int .i64 a.c.he) := H2.out.e.m.blk.at_ 5
  have de6 : W1.drew.cell? ⟨p, 6, none⟩ = some (.int .i64 a.c.ba) := H2.out.e.m.blk.at_ 6
  have de7 : W1.drew.cell? ⟨p, 7, none⟩ = some (.int .i64 a.c.ag) := H2.out.e.m.blk.at_ 7
  have de8 : W1.drew.cell? ⟨p, 8, none⟩ = some (.int .i64 a.c.pa) := H2.out.e.m.blk.at_ 8
  have de9 : W1.drew.cell? ⟨p, 9, none⟩ = some (.slice a.pa a.pn a.pc) := H2.out.e.m.blk.at_ 9
  have de10 : W1.drew.cell? ⟨p, 10, none⟩ = some (.slice a.sa a.sn a.sc) := H2.out.e.m.blk.at_ 10
  go_region_held3 (fun w' => w'.cell? ⟨g, o + 9, none⟩ = some (.int .i64 f.fi) ∧ w'.cell? ⟨g, o + 15, none⟩ = some (.int .u64 f.fw) ∧ w'.cell? ⟨p, 0, none⟩ = some (.int .i64 a.c.wo) ∧ w'.cell? ⟨p, 1, none⟩ = some (.int .i64 a.c.le) ∧ w'.cell? ⟨p, 2, none⟩ = some (.int .i64 a.c.cl) ∧ w'.cell? ⟨p, 3, none⟩ = some (.int .i64 a.c.ta) ∧ w'.cell? ⟨p, 4, none⟩ = some (.int .i64 a.c.de) ∧ w'.cell? ⟨p, 5, none⟩ = some (.int .i64 a.c.he) ∧ w'.cell? ⟨p, 6, none⟩ = some (.int .i64 a.c.ba) ∧ w'.cell? ⟨p, 7, none⟩ = some (.int .i64 a.c.ag) ∧ w'.cell? ⟨p, 8, none⟩ = some (.int .i64 a.c.pa) ∧ w'.cell? ⟨p, 9, none⟩ = some (.slice a.pa a.pn a.pc) ∧ w'.cell? ⟨p, 10, none⟩ = some (.slice a.sa a.sn a.sc)) (go_keep)
    (first
      | (go_at_call 10
         refine (slot_any hin _).mono ?_
         rintro e W3 ⟨rfl, hb⟩
         have H3 := Lib.hid (H2.out.below hb)
         have ah9 : W3.cell? ⟨g, o + 9, none⟩ = some (.int .i64 f.fi) := H3.out.f.at_ 9 (by omega)
         have ah15 : W3.cell? ⟨g, o + 15, none⟩ = some (.int .u64 f.fw) := H3.out.f.at_ 15 (by omega)
         have ahe0 : W3.cell? ⟨p, 0, none⟩ = some (.int .i64 a.c.wo) := H3.out.e.m.blk.at_ 0
         have ahe1 : W3.cell? ⟨p, 1, none⟩ = some (.int .i64 a.c.le) := H3.out.e.m.blk.at_ 1
         have ahe2 : W3.cell? ⟨p, 2, none⟩ = some (.int .i64 a.c.cl) := H3.out.e.m.blk.at_ 2
         have ahe3 : W3.cell? ⟨p, 3, none⟩ = some (.int .i64 a.c.ta) := H3.out.e.m.blk.at_ 3
         have ahe4 : W3.cell? ⟨p, 4, none⟩ = some (.int .i64 a.c.de) := H3.out.e.m.blk.at_ 4
         have ahe5 : W3.cell? ⟨p, 5, none⟩ = some (.int .i64 a.c.he) := H3.out.e.m.blk.at_ 5
         have ahe6 : W3.cell? ⟨p, 6, none⟩ = some (.int .i64 a.c.ba) := H3.out.e.m.blk.at_ 6
         have ahe7 : W3.cell? ⟨p, 7, none⟩ = some (.int .i64 a.c.ag) := H3.out.e.m.blk.at_ 7
         have ahe8 : W3.cell? ⟨p, 8, none⟩ = some (.int .i64 a.c.pa) := H3.out.e.m.blk.at_ 8
         have ahe9 : W3.cell? ⟨p, 9, none⟩ = some (.slice a.pa a.pn a.pc) := H3.out.e.m.blk.at_ 9
         have ahe10 : W3.cell? ⟨p, 10, none⟩ = some (.slice a.sa a.sn a.sc) := H3.out.e.m.blk.at_ 10
         clear hb)
      | (go_at_call 87
         refine (estore_any H3.out.e.m _ _).mono ?_
         rintro e W4 ⟨rfl, he, hf⟩
         have H4 := Lib.hid (H3.out.acc he hf)
         have bh9 : W4.cell? ⟨g, o + 9, none⟩ = some (.int .i64 f.fi) := H4.out.f.at_ 9 (by omega)
         have bh15 : W4.cell? ⟨g, o + 15, none⟩ = some (.int .u64 f.fw) := H4.out.f.at_ 15 (by omega)
         have bhe0 : W4.cell? ⟨p, 0, none⟩ = some (.int .i64 a.c.wo) := H4.out.e.m.blk.at_ 0
         have bhe1 : W4.cell? ⟨p, 1, none⟩ = some (.int .i64 a.c.le) := H4.out.e.m.blk.at_ 1
         have bhe2 : W4.cell? ⟨p, 2, none⟩ = some (.int .i64 a.c.cl) := H4.out.e.m.blk.at_ 2
         have bhe3 : W4.cell? ⟨p, 3, none⟩ = some (.int .i64 a.c.ta) := H4.out.e.m.blk.at_ 3
         have bhe4 : W4.cell? ⟨p, 4, none⟩ = some (.int .i64 a.c.de) := H4.out.e.m.blk.at_ 4
         have bhe5 : W4.cell? ⟨p, 5, none⟩ = some (.int .i64 a.c.he) := H4.out.e.m.blk.at_ 5
         have bhe6 : W4.cell? ⟨p, 6, none⟩ = some (.int .i64 a.c.ba) := H4.out.e.m.blk.at_ 6
         have bhe7 : W4.cell? ⟨p, 7, none⟩ = some (.int .i64 a.c.ag) := H4.out.e.m.blk.at_ 7
         have bhe8 : W4.cell? ⟨p, 8, none⟩ = some (.int .i64 a.c.pa) := H4.out.e.m.blk.at_ 8
         have bhe9 : W4.cell? ⟨p, 9, none⟩ = some (.slice a.pa a.pn a.pc) := H4.out.e.m.blk.at_ 9
         have bhe10 : W4.cell? ⟨p, 10, none⟩ = some (.slice a.sa a.sn a.sc) := H4.out.e.m.blk.at_ 10
         clear he hf))
  clear d9 d15 de0 de1 de2 de3 de4 de5 de6 de7 de8 de9 de10 ah9 ah15 ahe0 ahe1 ahe2 ahe3 ahe4 ahe5 ahe6 ahe7 ahe8 ahe9 ahe10 bh9 bh15 bhe0 bhe1 bhe2 bhe3 bhe4 bhe5 bhe6 bhe7 bhe8 bhe9 bhe10 H1 H2 H3
  go_upto_region 33 with fail
  have c9 : W4.cell? ⟨g, o + 9, none⟩ = some (.int .i64 f.fi) := H4.out.f.at_ 9 (by omega)
  have c10 : W4.cell? ⟨g, o + 10, none⟩ = some (.int .i64 f.fj) := H4.out.f.at_ 10 (by omega)
  have k9 := H4.out.f.free (o + 9)
  go_upto_region 34 with fail
  have H5 := Lib.hid (H4.out.set 9 (by omega) (.int .i64 (f.fj)) { f with fi := f.fj } rfl)
  clear c9 c10 k9
  generalize (W4.setCell ⟨g, o + 9, none⟩ (.int .i64 (f.fj))) = W5 at *
  clear H4
  go_wp2_with fail
  (with_reducible refine (child_any H5.out.f).mono ?_)
  rintro e W6 ⟨rfl, n6, rfl⟩
  have H6 := Lib.hid (H5.out.drewN n6)
  clear H5
  generalize W5.drewN n6 = W6 at *
  go_upto_region 35 with fail
  have c1 : W6.cell? ⟨g, o + 1, none⟩ = some (.int .i64 f.ln) := H6.out.f.at_ 1 (by omega)
  have k1 := H6.out.f.free (o + 1)
  have r0 := H6.out.r.at_ 0
  have q0 := H6.out.r.free 0
  have r1 := H6.out.r.at_ 1
  have q1 := H6.out.r.free 1
  have r2 := H6.out.r.at_ 2
  have q2 := H6.out.r.free 2
  rw [hl] at c1
  go_wp2
  have H7 := Lib.hid (H6.out.set 1 (by omega) (.int .i64 (childN f.fj f.fn)) { f with fi := f.fj, ln := childN f.fj f.fn } rfl)
  clear c1 k1 r0 q0 r1 q1 r2 q2
  refine bodyPost_ret (results_cell_row (P := Tryz.prog) Tryz.results89 _ _ w.heap.size 140 _ (0, 0) _ rfl (H7.out.res .none) Tryz.underlying140 rfl (by kernel_rfl)) rfl ?_
  exact H7.out.done .none
set_option maxRecDepth 100000 in
set_option maxHeartbeats 2000000 in
theorem remove_8 (he : EnvF B w p a s es rs) (hf : FrameP w g o pre post f) (hB : B ≤ g) (hin : CfgIn a.c) (hu : f.fu = (U : Int)) (hU : U < 18446744073709551616) (n1 : (f.ln == 1) = false) (n2 : (f.ln == 2) = false) (n3 : (f.ln == 3) = false) (n4 : (f.ln == 4) = false) (n5 : (f.ln == 5) = false) (n6 : (f.ln == 6) = false) (n7 : (f.ln == 7) = false) :
    Calls Tryz.prog 89 #[.pointer (some ⟨p, 0, none⟩), .pointer (some ⟨g, o, none⟩)] w (Line B p g o pre post a ⟨true, 1, ((U : Int) % 65536)⟩ (s.go 2 (rSlot a.c f.fi) (fun _ => f.fv)) es rs f w) := by
  have h0 := LSt.start he hf hB
  have H0 := Lib.hid h0
  have hng : g ≠ w.heap.size := by have := h0.lf; omega
  have hng1 := hng.symm
  have hgp : g ≠ p := (h0.f.ne h0.e.m).1
  clear he hf hB
  have HU := Lib.hid hu
  have HUB := Lib.hid hU
  clear hu hU
  have c1 : (w.alloc (.cells (rcells' .none) 140)).cell? ⟨g, o + 1, none⟩ = some (.int .i64 f.ln) := H0.out.f.at_ 1 (by omega)
  have c13 : (w.alloc (.cells (rcells' .none) 140)).cell? ⟨g, o + 13, none⟩ = some (.int .u64 f.fu) := H0.out.f.at_ 13 (by omega)
  rw [HU.out] at c13
  go_enter Tryz.func89, Tryz.ntmps89
  go_upto_region 1 with fail
  generalize (w.alloc (.cells (rcells' .none) 140)) = W0 at *
  clear h0
  go_wp2_with fail
  (with_reducible refine (runpack_any U HUB.out _).mono ?_)
  rintro e W1 ⟨n1, rfl, rfl⟩
  have H1 := Lib.hid (H0.out.drewN n1)
  clear c1 c13
  clear H0
  generalize W0.drewN n1 = W1 at *
  have c1 : W1.cell? ⟨g, o + 1, none⟩ = some (.int .i64 f.ln) := H1.out.f.at_ 1 (by omega)
  go_upto_region 4 with fail
  clear c1
  have H2 := Lib.hid H1.out.drew
  have d9 : W1.drew.cell? ⟨g, o + 9, none⟩ = some (.int .i64 f.fi) := H2.out.f.at_ 9 (by omega)
  have d14 : W1.drew.cell? ⟨g, o + 14, none⟩ = some (.int .u64 f.fv) := H2.out.f.at_ 14 (by omega)
  have de0 : W1.drew.cell? ⟨p, 0, none⟩ = some (.int .i64 a.c.wo) := H2.out.e.m.blk.at_ 0
  have de1 : W1.drew.cell? ⟨p, 1, none⟩ = some (.int .i64 a.c.le) := H2.out.e.m.blk.at_ 1
  have de2 : W1.drew.cell? ⟨p, 2, none⟩ = some (.int .i64 a.c.cl) := H2.out.e.m.blk.at_ 2
  have de3 : W1.drew.cell? ⟨p, 3, none⟩ = some (.int .i64 a.c.ta) := H2.out.e.m.blk.at_ 3
  have de4 : W1.drew.cell? ⟨p, 4, none⟩ = some (.int .i64 a.c.de) := H2.out.e.m.blk.at_ 4
  have de5 : W1.drew.cell? ⟨p, 5, none⟩ = some (.int .i64 a.c.he) := H2.out.e.m.blk.at_ 5
  have de6 : W1.drew.cell? ⟨p, 6, none⟩ = some (.int .i64 a.c.ba) := H2.out.e.m.blk.at_ 6
  have de7 : W1.drew.cell? ⟨p, 7, none⟩ = some (.int .i64 a.c.ag) := H2.out.e.m.blk.at_ 7
  have de8 : W1.drew.cell? ⟨p, 8, none⟩ = some (.int .i64 a.c.pa) := H2.out.e.m.blk.at_ 8
  have de9 : W1.drew.cell? ⟨p, 9, none⟩ = some (.slice a.pa a.pn a.pc) := H2.out.e.m.blk.at_ 9
  have de10 : W1.drew.cell? ⟨p, 10, none⟩ = some (.slice a.sa a.sn a.sc) := H2.out.e.m.blk.at_ 10
  go_region_held3 (fun w' => w'.cell? ⟨g, o + 9, none⟩ = some (.int .i64 f.fi) ∧ w'.cell? ⟨g, o + 14, none⟩ = some (.int .u64 f.fv) ∧ w'.cell? ⟨p, 0, none⟩ = some (.int .i64 a.c.wo) ∧ w'.cell? ⟨p, 1, none⟩ = some (.int .i64 a.c.le) ∧ w'.cell? ⟨p, 2, none⟩ = some (.int .i64 a.c.cl) ∧ w'.cell? ⟨p, 3, none⟩ = some (.int .i64 a.c.ta) ∧ w'.cell? ⟨p, 4, none⟩ = some (.int .i64 a.c.de) ∧ w'.cell? ⟨p, 5, none⟩ = some (.int .i64 a.c.he) ∧ w'.cell? ⟨p, 6, none⟩ = some (.int .i64 a.c.ba) ∧ w'.cell? ⟨p, 7, none⟩ = some (.int .i64 a.c.ag) ∧ w'.cell? ⟨p, 8, none⟩ = some (.int .i64 a.c.pa) ∧ w'.cell? ⟨p, 9, none⟩ = some (.slice a.pa a.pn a.pc) ∧ w'.cell? ⟨p, 10, none⟩ = some (.slice a.sa a.sn a.sc)) (go_keep)
    (first
      | (go_at_call 10
         refine (slot_any hin _).mono ?_
         rintro e W3 ⟨rfl, hb⟩
         have H3 := Lib.hid (H2.out.below hb)
         have ah9 : W3.cell? ⟨g, o + 9, none⟩ = some (.int .i64 f.fi) := H3.out.f.at_ 9 (by omega)
         have ah14 : W3.cell? ⟨g, o + 14, none⟩ = some (.int .u64 f.fv) := H3.out.f.at_ 14 (by omega)
         have ahe0 : W3.cell? ⟨p, 0, none⟩ = some (.int .i64 a.c.wo) := H3.out.e.m.blk.at_ 0
         have ahe1 : W3.cell? ⟨p, 1, none⟩ = some (.int .i64 a.c.le) := H3.out.e.m.blk.at_ 1
         have ahe2 : W3.cell? ⟨p, 2, none⟩ = some (.int .i64 a.c.cl) := H3.out.e.m.blk.at_ 2
         have ahe3 : W3.cell? ⟨p, 3, none⟩ = some (.int .i64 a.c.ta) := H3.out.e.m.blk.at_ 3
         have ahe4 : W3.cell? ⟨p, 4, none⟩ = some (.int .i64 a.c.de) := H3.out.e.m.blk.at_ 4
         have ahe5 : W3.cell? ⟨p, 5, none⟩ = some (.int .i64 a.c.he) := H3.out.e.m.blk.at_ 5
         have ahe6 : W3.cell? ⟨p, 6, none⟩ = some (.int .i64 a.c.ba) := H3.out.e.m.blk.at_ 6
         have ahe7 : W3.cell? ⟨p, 7, none⟩ = some (.int .i64 a.c.ag) := H3.out.e.m.blk.at_ 7
         have ahe8 : W3.cell? ⟨p, 8, none⟩ = some (.int .i64 a.c.pa) := H3.out.e.m.blk.at_ 8
         have ahe9 : W3.cell? ⟨p, 9, none⟩ = some (.slice a.pa a.pn a.pc) := H3.out.e.m.blk.at_ 9
         have ahe10 : W3.cell? ⟨p, 10, none⟩ = some (.slice a.sa a.sn a.sc) := H3.out.e.m.blk.at_ 10
         clear hb)
      | (go_at_call 87
         refine (estore_any H3.out.e.m _ _).mono ?_
         rintro e W4 ⟨rfl, he, hf⟩
         have H4 := Lib.hid (H3.out.acc he hf)
         have bh9 : W4.cell? ⟨g, o + 9, none⟩ = some (.int .i64 f.fi) := H4.out.f.at_ 9 (by omega)
         have bh14 : W4.cell? ⟨g, o + 14, none⟩ = some (.int .u64 f.fv) := H4.out.f.at_ 14 (by omega)
         have bhe0 : W4.cell? ⟨p, 0, none⟩ = some (.int .i64 a.c.wo) := H4.out.e.m.blk.at_ 0
         have bhe1 : W4.cell? ⟨p, 1, none⟩ = some (.int .i64 a.c.le) := H4.out.e.m.blk.at_ 1
         have bhe2 : W4.cell? ⟨p, 2, none⟩ = some (.int .i64 a.c.cl) := H4.out.e.m.blk.at_ 2
         have bhe3 : W4.cell? ⟨p, 3, none⟩ = some (.int .i64 a.c.ta) := H4.out.e.m.blk.at_ 3
         have bhe4 : W4.cell? ⟨p, 4, none⟩ = some (.int .i64 a.c.de) := H4.out.e.m.blk.at_ 4
         have bhe5 : W4.cell? ⟨p, 5, none⟩ = some (.int .i64 a.c.he) := H4.out.e.m.blk.at_ 5
         have bhe6 : W4.cell? ⟨p, 6, none⟩ = some (.int .i64 a.c.ba) := H4.out.e.m.blk.at_ 6
         have bhe7 : W4.cell? ⟨p, 7, none⟩ = some (.int .i64 a.c.ag) := H4.out.e.m.blk.at_ 7
         have bhe8 : W4.cell? ⟨p, 8, none⟩ = some (.int .i64 a.c.pa) := H4.out.e.m.blk.at_ 8
         have bhe9 : W4.cell? ⟨p, 9, none⟩ = some (.slice a.pa a.pn a.pc) := H4.out.e.m.blk.at_ 9
         have bhe10 : W4.cell? ⟨p, 10, none⟩ = some (.slice a.sa a.sn a.sc) := H4.out.e.m.blk.at_ 10
         clear he hf))
  clear d9 d14 de0 de1 de2 de3 de4 de5 de6 de7 de8 de9 de10 ah9 ah14 ahe0 ahe1 ahe2 ahe3 ahe4 ahe5 ahe6 ahe7 ahe8 ahe9 ahe10 bh9 bh14 bhe0 bhe1 bhe2 bhe3 bhe4 bhe5 bhe6 bhe7 bhe8 bhe9 bhe10 H1 H2 H3
  go_wp2_with fail
  (with_reducible refine (end_any _ _ _).mono ?_)
  rintro e W5 ⟨rfl, hb⟩
  have H5 := Lib.hid (H4.out.below hb)
  clear hb H4
  have r0 := H5.out.r.at_ 0
  have q0 := H5.out.r.free 0
  have r1 := H5.out.r.at_ 1
  have q1 := H5.out.r.free 1
  have r2 := H5.out.r.at_ 2
  have q2 := H5.out.r.free 2
  go_wp2
  refine bodyPost_ret (results_cell_row (P := Tryz.prog) Tryz.results89 _ _ w.heap.size 140 _ (0, 0) _ rfl (H5.out.res ⟨true, 1, ((U : Int) % 65536)⟩) Tryz.underlying140 rfl (by kernel_rfl)) rfl ?_
  exact H5.out.done ⟨true, 1, ((U : Int) % 65536)⟩
end
end Go.Proofs.YtanbjdlaolgepaaGreat
