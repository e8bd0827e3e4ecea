/-
  The reference's insert, line by line. (Written by wip/gen_insert.py.)
-/
import Derived.Test.YtanbjdlaolgepaaGreatMgAG
import Derived.Test.YtanbjdlaolgepaaGreatMgAF
import Derived.Test.YtanbjdlaolgepaaGreatMgAH
import Derived.Test.YtanbjdlaolgepaaGreatMgAA
import Derived.Test.YtanbjdlaolgepaaGreatMgBD
import Derived.Deep.CutRange
import Derived.Test.YtanbjdlaolgepaaGreatMgAI
import Derived.Test.YtanbjdlaolgepaaGreatMgBF
namespace Go.Proofs.YtanbjdlaolgepaaGreat
open Go Go.RowKit
set_option linter.unusedSimpArgs false


section
variable {B p g o : Nat} {w : World} {pre post : List Value} {a : EnvA} {s : St} {es : List Ev} {rs : List Rec} {f : Fra}

set_option maxRecDepth 100000 in
set_option maxHeartbeats 2000000 in
theorem insert_1f (he : EnvF B w p a s es rs) (hf : FrameP w g o pre post f) (hB : B ≤ g) (hl : f.ln = 1) (hc : a.c.he ≤ wrap64 (s.old 2)) :
    Calls Tryz.prog 88 #[.pointer (some ⟨p, 0, none⟩), .pointer (some ⟨g, o, none⟩)] w (Line B p g o pre post a ⟨true, 3, 0⟩ (s.go 1 2 id) es rs { f with fn := wrap64 (s.old 2) } w) := by
  have h0 := LSt.start he hf hB
  have H0 := Lib.hid h0
  have hng : g ≠ w.heap.size := by have := h0.lf; omega
  have hng1 := hng.symm
  have hgp : g ≠ p := (h0.f.ne h0.e.m).1
  clear he hf hB
  have c1 : (w.alloc (.cells (rcells' .none) 140)).cell? ⟨g, o + 1, none⟩ = some (.int .i64 f.ln) := H0.out.f.at_ 1 (by omega)
  rw [hl] at c1
  go_enter Tryz.func88, Tryz.ntmps88
  go_upto_region 1 with fail
  generalize (w.alloc (.cells (rcells' .none) 140)) = W0 at *
  clear h0
  go_wp2_with fail
  (with_reducible refine (eload_any H0.out.e.m _).mono ?_)
  rintro e W1 ⟨rfl, he, hf⟩
  have H1 := Lib.hid (H0.out.acc he hf)
  clear c1
  clear he hf H0
  have c11 : W1.cell? ⟨g, o + 11, none⟩ = some (.int .i64 f.fn) := H1.out.f.at_ 11 (by omega)
  have k11 := H1.out.f.free (o + 11)
  go_upto_region 7 with fail
  have H2 := Lib.hid (H1.out.set 11 (by omega) (.int .i64 (wrap64 (s.old 2))) { f with fn := wrap64 (s.old 2) } rfl)
  clear c11 k11
  generalize (W1.setCell ⟨g, o + 11, none⟩ (.int .i64 (wrap64 (s.old 2)))) = W2 at *
  clear H1
  have c11 : W2.cell? ⟨g, o + 11, none⟩ = some (.int .i64 (wrap64 (s.old 2))) := H2.out.f.at_ 11 (by omega)
  have e5 : W2.cell? ⟨p, 5, none⟩ = some (.int .i64 a.c.he) := H2.out.e.m.blk.at_ 5
  go_quiet (fail)
  have H3 := Lib.hid (H2.out.drewN nq)
  clear c11 e5
  generalize W2.drewN nq = W3 at *
  clear H2
  go_wp2_with fail
  (with_reducible refine (end_any _ _ _).mono ?_)
  rintro e W4 ⟨rfl, hb⟩
  have H4 := Lib.hid (H3.out.below hb)
  clear hb H3
  have r0 := H4.out.r.at_ 0
  have q0 := H4.out.r.free 0
  have r1 := H4.out.r.at_ 1
  have q1 := H4.out.r.free 1
  have r2 := H4.out.r.at_ 2
  have q2 := H4.out.r.free 2
  go_wp2
  refine bodyPost_ret (results_cell_row (P := Tryz.prog) Tryz.results88 _ _ w.heap.size 140 _ (0, 0) _ rfl (H4.out.res ⟨true, 3, 0⟩) Tryz.underlying140 rfl (by kernel_rfl)) rfl ?_
  exact H4.out.done ⟨true, 3, 0⟩
set_option maxRecDepth 100000 in
set_option maxHeartbeats 2000000 in
theorem insert_1 (he : EnvF B w p a s es rs) (hf : FrameP w g o pre post f) (hB : B ≤ g) (hl : f.ln = 1) (hc : wrap64 (s.old 2) < a.c.he) :
    Calls Tryz.prog 88 #[.pointer (some ⟨p, 0, none⟩), .pointer (some ⟨g, o, none⟩)] w (Line B p g o pre post a .none (s.go 1 2 id) es rs { f with fn := wrap64 (s.old 2), ln := 2 } w) := by
  have h0 := LSt.start he hf hB
  have H0 := Lib.hid h0
  have hng : g ≠ w.heap.size := by have := h0.lf; omega
  have hng1 := hng.symm
  have hgp : g ≠ p := (h0.f.ne h0.e.m).1
  clear he hf hB
  have c1 : (w.alloc (.cells (rcells' .none) 140)).cell? ⟨g, o + 1, none⟩ = some (.int .i64 f.ln) := H0.out.f.at_ 1 (by omega)
  rw [hl] at c1
  go_enter Tryz.func88, Tryz.ntmps88
  go_upto_region 1 with fail
  generalize (w.alloc (.cells (rcells' .none) 140)) = W0 at *
  clear h0
  go_wp2_with fail
  (with_reducible refine (eload_any H0.out.e.m _).mono ?_)
  rintro e W1 ⟨rfl, he, hf⟩
  have H1 := Lib.hid (H0.out.acc he hf)
  clear c1
  clear he hf H0
  have c11 : W1.cell? ⟨g, o + 11, none⟩ = some (.int .i64 f.fn) := H1.out.f.at_ 11 (by omega)
  have k11 := H1.out.f.free (o + 11)
  go_upto_region 7 with fail
  have H2 := Lib.hid (H1.out.set 11 (by omega) (.int .i64 (wrap64 (s.old 2))) { f with fn := wrap64 (s.old 2) } rfl)
  clear c11 k11
  generalize (W1.setCell ⟨g, o + 11, none⟩ (.int .i64 (wrap64 (s.old 2)))) = W2 at *
  clear H1
  have c11 : W2.cell? ⟨g, o + 11, none⟩ = some (.int .i64 (wrap64 (s.old 2))) := H2.out.f.at_ 11 (by omega)
  have e5 : W2.cell? ⟨p, 5, none⟩ = some (.int .i64 a.c.he) := H2.out.e.m.blk.at_ 5
  go_quiet (fail)
  have H3 := Lib.hid (H2.out.drewN nq)
  clear c11 e5
  generalize W2.drewN nq = W3 at *
  clear H2
  have c1 : W3.cell? ⟨g, o + 1, none⟩ = some (.int .i64 f.ln) := H3.out.f.at_ 1 (by omega)
  have k1 := H3.out.f.free (o + 1)
  have r0 := H3.out.r.at_ 0
  have q0 := H3.out.r.free 0
  have r1 := H3.out.r.at_ 1
  have q1 := H3.out.r.free 1
  have r2 := H3.out.r.at_ 2
  have q2 := H3.out.r.free 2
  rw [hl] at c1
  go_wp2
  have H4 := Lib.hid (H3.out.set 1 (by omega) (.int .i64 (2)) { f with fn := wrap64 (s.old 2), ln := 2 } rfl)
  clear c1 k1 r0 q0 r1 q1 r2 q2
  refine bodyPost_ret (results_cell_row (P := Tryz.prog) Tryz.results88 _ _ w.heap.size 140 _ (0, 0) _ rfl (H4.out.res .none) Tryz.underlying140 rfl (by kernel_rfl)) rfl ?_
  exact H4.out.done .none
set_option maxRecDepth 100000 in
set_option maxHeartbeats 2000000 in
theorem insert_2a (he : EnvF B w p a s es rs) (hf : FrameP w g o pre post f) (hB : B ≤ g) (hl : f.ln = 2) (hk : Keyed f.fa (IntKind.i64.wrap (s.old 3)) f.fb) (hn : f.fn ≤ 0) :
    Calls Tryz.prog 88 #[.pointer (some ⟨p, 0, none⟩), .pointer (some ⟨g, o, none⟩)] w (Line B p g o pre post a .none (s.go 6 3 (fun x => IntKind.u64.wrap (x + 1))) es rs { f with fw := keyS f.fa (IntKind.i64.wrap (s.old 3)) f.fb, fi := f.fn, ln := 5 } w) := by
  have h0 := LSt.start he hf hB
  have H0 := Lib.hid h0
  have hng : g ≠ w.heap.size := by have := h0.lf; omega
  have hng1 := hng.symm
  have hgp : g ≠ p := (h0.f.ne h0.e.m).1
  clear he hf hB
  have HK := Lib.hid hk
  clear hk
  obtain ⟨z, hz⟩ : ∃ z, keyS f.fa (IntKind.i64.wrap (s.old 3)) f.fb = z := ⟨_, rfl⟩
  rw [hz]
  have HZ := Lib.hid hz
  clear hz
  have c1 : (w.alloc (.cells (rcells' .none) 140)).cell? ⟨g, o + 1, none⟩ = some (.int .i64 f.ln) := H0.out.f.at_ 1 (by omega)
  rw [hl] at c1
  go_enter Tryz.func88, Tryz.ntmps88
  go_upto_region 1 with fail
  generalize (w.alloc (.cells (rcells' .none) 140)) = W0 at *
  clear h0
  go_upto_region 10 with fail
  clear c1
  have H1 := Lib.hid H0.out.drew
  have d6 : W0.drew.cell? ⟨g, o + 6, none⟩ = some (.int .i64 f.fa) := H1.out.f.at_ 6 (by omega)
  have d7 : W0.drew.cell? ⟨g, o + 7, none⟩ = some (.int .i64 f.fb) := H1.out.f.at_ 7 (by omega)
  go_region_held3 (fun w' => w'.cell? ⟨g, o + 6, none⟩ = some (.int .i64 f.fa) ∧ w'.cell? ⟨g, o + 7, none⟩ = some (.int .i64 f.fb)) (go_keep)
    (first
      | (go_at_call 120
         refine (eadd_any H1.out.e.m _ _).mono ?_
         rintro e W2 ⟨rfl, he, hf⟩
         have H2 := Lib.hid (H1.out.acc he hf)
         have ah6 : W2.cell? ⟨g, o + 6, none⟩ = some (.int .i64 f.fa) := H2.out.f.at_ 6 (by omega)
         have ah7 : W2.cell? ⟨g, o + 7, none⟩ = some (.int .i64 f.fb) := H2.out.f.at_ 7 (by omega)
         clear he hf)
      | (go_at_call 119
         refine (rpack_ok _ _ _ HK.out _).mono ?_
         rintro e W3 ⟨rfl, rfl⟩
         have H3 := H2
         skip))
  clear d6 d7 ah6 ah7 H0 H1 H2
  rw [HZ.out]
  have c1 : W2.cell? ⟨g, o + 1, none⟩ = some (.int .i64 f.ln) := H3.out.f.at_ 1 (by omega)
  have c11 : W2.cell? ⟨g, o + 11, none⟩ = some (.int .i64 f.fn) := H3.out.f.at_ 11 (by omega)
  have c15 : W2.cell? ⟨g, o + 15, none⟩ = some (.int .u64 f.fw) := H3.out.f.at_ 15 (by omega)
  have c9 : W2.cell? ⟨g, o + 9, none⟩ = some (.int .i64 f.fi) := H3.out.f.at_ 9 (by omega)
  have k15 := H3.out.f.free (o + 15)
  have k9 := H3.out.f.free (o + 9)
  have k1 := H3.out.f.free (o + 1)
  rw [hl] at c1
  go_upto_region 28 with fail
  have H4 := Lib.hid ((H3.out.set 15 (by omega) (.int .u64 (z)) { f with fw := z } rfl).set 9 (by omega) (.int .i64 (f.fn)) { f with fw := z, fi := f.fn } rfl)
  clear c1 c11 c15 c9 k15 k9 k1
  generalize ((W2.setCell ⟨g, o + 15, none⟩ (.int .u64 (z))).setCell ⟨g, o + 9, none⟩ (.int .i64 (f.fn))) = W4 at *
  clear H3
  have c1 : W4.cell? ⟨g, o + 1, none⟩ = some (.int .i64 f.ln) := H4.out.f.at_ 1 (by omega)
  have k1 := H4.out.f.free (o + 1)
  have r0 := H4.out.r.at_ 0
  have q0 := H4.out.r.free 0
  have r1 := H4.out.r.at_ 1
  have q1 := H4.out.r.free 1
  have r2 := H4.out.r.at_ 2
  have q2 := H4.out.r.free 2
  rw [hl] at c1
  go_wp2
  have H5 := Lib.hid (H4.out.set 1 (by omega) (.int .i64 (5)) { f with fw := z, fi := f.fn, ln := 5 } rfl)
  clear c1 k1 r0 q0 r1 q1 r2 q2
  refine bodyPost_ret (results_cell_row (P := Tryz.prog) Tryz.results88 _ _ w.heap.size 140 _ (0, 0) _ rfl (H5.out.res .none) Tryz.underlying140 rfl (by kernel_rfl)) rfl ?_
  exact H5.out.done .none
set_option maxRecDepth 100000 in
set_option maxHeartbeats 2000000 in
theorem insert_2b (he : EnvF B w p a s es rs) (hf : FrameP w g o pre post f) (hB : B ≤ g) (hl : f.ln = 2) (hk : Keyed f.fa (IntKind.i64.wrap (s.old 3)) f.fb) (hn : 0 < f.fn) :
    Calls Tryz.prog 88 #[.pointer (some ⟨p, 0, none⟩), .pointer (some ⟨g, o, none⟩)] w (Line B p g o pre post a .none (s.go 6 3 (fun x => IntKind.u64.wrap (x + 1))) es rs { f with fw := keyS f.fa (IntKind.i64.wrap (s.old 3)) f.fb, fi := f.fn, ln := 3 } w) := by
  have h0 := LSt.start he hf hB
  have H0 := Lib.hid h0
  have hng : g ≠ w.heap.size := by have := h0.lf; omega
  have hng1 := hng.symm
  have hgp : g ≠ p := (h0.f.ne h0.e.m).1
  clear he hf hB
  have HK := Lib.hid hk
  clear hk
  obtain ⟨z, hz⟩ : ∃ z, keyS f.fa (IntKind.i64.wrap (s.old 3)) f.fb = z := ⟨_, rfl⟩
  rw [hz]
  have HZ := Lib.hid hz
  clear hz
  have c1 : (w.alloc (.cells (rcells' .none) 140)).cell? ⟨g, o + 1, none⟩ = some (.int .i64 f.ln) := H0.out.f.at_ 1 (by omega)
  rw [hl] at c1
  go_enter Tryz.func88, Tryz.ntmps88
  go_upto_region 1 with fail
  generalize (w.alloc (.cells (rcells' .none) 140)) = W0 at *
  clear h0
  go_upto_region 10 with fail
  clear c1
  have H1 := Lib.hid H0.out.drew
  have d6 : W0.drew.cell? ⟨g, o + 6, none⟩ = some (.int .i64 f.fa) := H1.out.f.at_ 6 (by omega)
  have d7 : W0.drew.cell? ⟨g, o + 7, none⟩ = some (.int .i64 f.fb) := H1.out.f.at_ 7 (by omega)
  go_region_held3 (fun w' => w'.cell? ⟨g, o + 6, none⟩ = some (.int .i64 f.fa) ∧ w'.cell? ⟨g, o + 7, none⟩ = some (.int .i64 f.fb)) (go_keep)
    (first
      | (go_at_call 120
         refine (eadd_any H1.out.e.m _ _).mono ?_
         rintro e W2 ⟨rfl, he, hf⟩
         have H2 := Lib.hid (H1.out.acc he hf)
         have ah6 : W2.cell? ⟨g, o + 6, none⟩ = some (.int .i64 f.fa) := H2.out.f.at_ 6 (by omega)
         have ah7 : W2.cell? ⟨g, o + 7, none⟩ = some (.int .i64 f.fb) := H2.out.f.at_ 7 (by omega)
         clear he hf)
      | (go_at_call 119
         refine (rpack_ok _ _ _ HK.out _).mono ?_
         rintro e W3 ⟨rfl, rfl⟩
         have H3 := H2
         skip))
  clear d6 d7 ah6 ah7 H0 H1 H2
  rw [HZ.out]
  have c1 : W2.cell? ⟨g, o + 1, none⟩ = some (.int .i64 f.ln) := H3.out.f.at_ 1 (by omega)
  have c11 : W2.cell? ⟨g, o + 11, none⟩ = some (.int .i64 f.fn) := H3.out.f.at_ 11 (by omega)
  have c15 : W2.cell? ⟨g, o + 15, none⟩ = some (.int .u64 f.fw) := H3.out.f.at_ 15 (by omega)
  have c9 : W2.cell? ⟨g, o + 9, none⟩ = some (.int .i64 f.fi) := H3.out.f.at_ 9 (by omega)
  have k15 := H3.out.f.free (o + 15)
  have k9 := H3.out.f.free (o + 9)
  have k1 := H3.out.f.free (o + 1)
  rw [hl] at c1
  go_upto_region 28 with fail
  have H4 := Lib.hid ((H3.out.set 15 (by omega) (.int .u64 (z)) { f with fw := z } rfl).set 9 (by omega) (.int .i64 (f.fn)) { f with fw := z, fi := f.fn } rfl)
  clear c1 c11 c15 c9 k15 k9 k1
  generalize ((W2.setCell ⟨g, o + 15, none⟩ (.int .u64 (z))).setCell ⟨g, o + 9, none⟩ (.int .i64 (f.fn))) = W4 at *
  clear H3
  have c1 : W4.cell? ⟨g, o + 1, none⟩ = some (.int .i64 f.ln) := H4.out.f.at_ 1 (by omega)
  have k1 := H4.out.f.free (o + 1)
  have r0 := H4.out.r.at_ 0
  have q0 := H4.out.r.free 0
  have r1 := H4.out.r.at_ 1
  have q1 := H4.out.r.free 1
  have r2 := H4.out.r.at_ 2
  have q2 := H4.out.r.free 2
  rw [hl] at c1
  go_wp2
  have H5 := Lib.hid (H4.out.set 1 (by omega) (.int .i64 (3)) { f with fw := z, fi := f.fn, ln := 3 } rfl)
  clear c1 k1 r0 q0 r1 q1 r2 q2
  refine bodyPost_ret (results_cell_row (P := Tryz.prog) Tryz.results88 _ _ w.heap.size 140 _ (0, 0) _ rfl (H5.out.res .none) Tryz.underlying140 rfl (by kernel_rfl)) rfl ?_
  exact H5.out.done .none
set_option maxRecDepth 100000 in
set_option maxHeartbeats 2000000 in
theorem insert_2n (he : EnvF B w p a s es rs) (hf : FrameP w g o pre post f) (hB : B ≤ g) (hl : f.ln = 2) (hk : ¬ Keyed f.fa (IntKind.i64.wrap (s.old 3)) f.fb) :
    Calls Tryz.prog 88 #[.pointer (some ⟨p, 0, none⟩), .pointer (some ⟨g, o, none⟩)] w (Line B p g o pre post a ⟨true, 4, 0⟩ (s.go 6 3 (fun x => IntKind.u64.wrap (x + 1))) es rs f w) := by
  have h0 := LSt.start he hf hB
  have H0 := Lib.hid h0
  have hng : g ≠ w.heap.size := by have := h0.lf; omega
  have hng1 := hng.symm
  have hgp : g ≠ p := (h0.f.ne h0.e.m).1
  clear he hf hB
  have HK := Lib.hid hk
  clear hk
  have c1 : (w.alloc (.cells (rcells' .none) 140)).cell? ⟨g, o + 1, none⟩ = some (.int .i64 f.ln) := H0.out.f.at_ 1 (by omega)
  rw [hl] at c1
  go_enter Tryz.func88, Tryz.ntmps88
  go_upto_region 1 with fail
  generalize (w.alloc (.cells (rcells' .none) 140)) = W0 at *
  clear h0
  go_upto_region 10 with fail
  clear c1
  have H1 := Lib.hid H0.out.drew
  have d6 : W0.drew.cell? ⟨g, o + 6, none⟩ = some (.int .i64 f.fa) := H1.out.f.at_ 6 (by omega)
  have d7 : W0.drew.cell? ⟨g, o + 7, none⟩ = some (.int .i64 f.fb) := H1.out.f.at_ 7 (by omega)
  go_region_held3 (fun w' => w'.cell? ⟨g, o + 6, none⟩ = some (.int .i64 f.fa) ∧ w'.cell? ⟨g, o + 7, none⟩ = some (.int .i64 f.fb)) (go_keep)
    (first
      | (go_at_call 120
         refine (eadd_any H1.out.e.m _ _).mono ?_
         rintro e W2 ⟨rfl, he, hf⟩
         have H2 := Lib.hid (H1.out.acc he hf)
         have ah6 : W2.cell? ⟨g, o + 6, none⟩ = some (.int .i64 f.fa) := H2.out.f.at_ 6 (by omega)
         have ah7 : W2.cell? ⟨g, o + 7, none⟩ = some (.int .i64 f.fb) := H2.out.f.at_ 7 (by omega)
         clear he hf)
      | (go_at_call 119
         refine (rpack_no _ _ _ HK.out _).mono ?_
         rintro e W3 ⟨rfl, rfl⟩
         have H3 := H2
         skip))
  clear d6 d7 ah6 ah7 H0 H1 H2
  go_wp2_with fail
  (with_reducible refine (end_any _ _ _).mono ?_)
  rintro e W4 ⟨rfl, hb⟩
  have H4 := Lib.hid (H3.out.below hb)
  clear hb H3
  have r0 := H4.out.r.at_ 0
  have q0 := H4.out.r.free 0
  have r1 := H4.out.r.at_ 1
  have q1 := H4.out.r.free 1
  have r2 := H4.out.r.at_ 2
  have q2 := H4.out.r.free 2
  go_wp2
  refine bodyPost_ret (results_cell_row (P := Tryz.prog) Tryz.results88 _ _ w.heap.size 140 _ (0, 0) _ rfl (H4.out.res ⟨true, 4, 0⟩) Tryz.underlying140 rfl (by kernel_rfl)) rfl ?_
  exact H4.out.done ⟨true, 4, 0⟩
set_option maxRecDepth 100000 in
set_option maxHeartbeats 2000000 in
theorem insert_3a (he : EnvF B w p a s es rs) (hf : FrameP w g o pre post f) (hB : B ≤ g) (hin : CfgIn a.c) (hl : f.ln = 3) (hx : s.old (rSlot a.c (parD f.fi)) ≤ f.fw) :
    Calls Tryz.prog 88 #[.pointer (some ⟨p, 0, none⟩), .pointer (some ⟨g, o, none⟩)] w (Line B p g o pre post a .none (s.go 1 (rSlot a.c (parD f.fi)) id) es rs { f with fx := s.old (rSlot a.c (parD f.fi)), ln := 5 } w) := by
  have h0 := LSt.start he hf hB
  have H0 := Lib.hid h0
  have hng : g ≠ w.heap.size := by have := h0.lf; omega
  have hng1 := hng.symm
  have hgp : g ≠ p := (h0.f.ne h0.e.m).1
  clear he hf hB
  have c1 : (w.alloc (.cells (rcells' .none) 140)).cell? ⟨g, o + 1, none⟩ = some (.int .i64 f.ln) := H0.out.f.at_ 1 (by omega)
  rw [hl] at c1
  go_enter Tryz.func88, Tryz.ntmps88
  go_upto_region 1 with fail
  generalize (w.alloc (.cells (rcells' .none) 140)) = W0 at *
  clear h0
  go_upto_region 17 with fail
  clear c1
  have H1 := Lib.hid H0.out.drew
  have d9 : W0.drew.cell? ⟨g, o + 9, none⟩ = some (.int .i64 f.fi) := H1.out.f.at_ 9 (by omega)
  have de0 : W0.drew.cell? ⟨p, 0, none⟩ = some (.int .i64 a.c.wo) := H1.out.e.m.blk.at_ 0
  have de1 : W0.drew.cell? ⟨p, 1, none⟩ = some (.int .i64 a.c.le) := H1.out.e.m.blk.at_ 1
  have de2 : W0.drew.cell? ⟨p, 2, none⟩ = some (.int .i64 a.c.cl) := H1.out.e.m.blk.at_ 2
  have de3 : W0.drew.cell? ⟨p, 3, none⟩ = some (.int .i64 a.c.ta) := H1.out.e.m.blk.at_ 3
  have de4 : W0.drew.cell? ⟨p, 4, none⟩ = some (.int .i64 a.c.de) := H1.out.e.m.blk.at_ 4
  have de5 : W0.drew.cell? ⟨p, 5, none⟩ = some (.int .i64 a.c.he) := H1.out.e.m.blk.at_ 5
  have de6 : W0.drew.cell? ⟨p, 6, none⟩ = some (.int .i64 a.c.ba) := H1.out.e.m.blk.at_ 6
  have de7 : W0.drew.cell? ⟨p, 7, none⟩ = some (.int .i64 a.c.ag) := H1.out.e.m.blk.at_ 7
  have de8 : W0.drew.cell? ⟨p, 8, none⟩ = some (.int .i64 a.c.pa) := H1.out.e.m.blk.at_ 8
  have de9 : W0.drew.cell? ⟨p, 9, none⟩ = some (.slice a.pa a.pn a.pc) := H1.out.e.m.blk.at_ 9
  have de10 : W0.drew.cell? ⟨p, 10, none⟩ = some (.slice a.sa a.sn a.sc) := H1.out.e.m.blk.at_ 10
  go_region_held3 (fun w' => w'.cell? ⟨g, o + 9, none⟩ = some (.int .i64 f.fi) ∧ w'.cell? ⟨p, 0, none⟩ = some (.int .i64 a.c.wo) ∧ w'.cell? ⟨p, 1, none⟩ = some (.int .i64 a.c.le) ∧ w'.cell? ⟨p, 2, none⟩ = some (.int .i64 a.c.cl) ∧ w'.cell? ⟨p, 3, none⟩ = some (.int .i64 a.c.ta) ∧ w'.cell? ⟨p, 4, none⟩ = some (.int .i64 a.c.de) ∧ w'.cell? ⟨p, 5, none⟩ = some (.int .i64 a.c.he) ∧ w'.cell? ⟨p, 6, none⟩ = some (.int .i64 a.c.ba) ∧ w'.cell? ⟨p, 7, none⟩ = some (.int .i64 a.c.ag) ∧ w'.cell? ⟨p, 8, none⟩ = some (.int .i64 a.c.pa) ∧ w'.cell? ⟨p, 9, none⟩ = some (.slice a.pa a.pn a.pc) ∧ w'.cell? ⟨p, 10, none⟩ = some (.slice a.sa a.sn a.sc)) ((first | exact ⟨s9, se0, se1, se2, se3, se4, se5, se6, se7, se8, se9, se10⟩ | go_keep))
    (first
      | (go_at_call 10
         refine (slot_any hin _).mono ?_
         rintro e W2 ⟨rfl, hb⟩
         have H2 := Lib.hid (H1.out.below hb)
         have ah9 : W2.cell? ⟨g, o + 9, none⟩ = some (.int .i64 f.fi) := H2.out.f.at_ 9 (by omega)
         have ahe0 : W2.cell? ⟨p, 0, none⟩ = some (.int .i64 a.c.wo) := H2.out.e.m.blk.at_ 0
         have ahe1 : W2.cell? ⟨p, 1, none⟩ = some (.int .i64 a.c.le) := H2.out.e.m.blk.at_ 1
         have ahe2 : W2.cell? ⟨p, 2, none⟩ = some (.int .i64 a.c.cl) := H2.out.e.m.blk.at_ 2
         have ahe3 : W2.cell? ⟨p, 3, none⟩ = some (.int .i64 a.c.ta) := H2.out.e.m.blk.at_ 3
         have ahe4 : W2.cell? ⟨p, 4, none⟩ = some (.int .i64 a.c.de) := H2.out.e.m.blk.at_ 4
         have ahe5 : W2.cell? ⟨p, 5, none⟩ = some (.int .i64 a.c.he) := H2.out.e.m.blk.at_ 5
         have ahe6 : W2.cell? ⟨p, 6, none⟩ = some (.int .i64 a.c.ba) := H2.out.e.m.blk.at_ 6
         have ahe7 : W2.cell? ⟨p, 7, none⟩ = some (.int .i64 a.c.ag) := H2.out.e.m.blk.at_ 7
         have ahe8 : W2.cell? ⟨p, 8, none⟩ = some (.int .i64 a.c.pa) := H2.out.e.m.blk.at_ 8
         have ahe9 : W2.cell? ⟨p, 9, none⟩ = some (.slice a.pa a.pn a.pc) := H2.out.e.m.blk.at_ 9
         have ahe10 : W2.cell? ⟨p, 10, none⟩ = some (.slice a.sa a.sn a.sc) := H2.out.e.m.blk.at_ 10
         clear hb)
      | (go_at_call 84
         refine (eload_any H2.out.e.m _).mono ?_
         rintro e W3 ⟨rfl, he, hf⟩
         have H3 := Lib.hid (H2.out.acc he hf)
         have bh9 : W3.cell? ⟨g, o + 9, none⟩ = some (.int .i64 f.fi) := H3.out.f.at_ 9 (by omega)
         have bhe0 : W3.cell? ⟨p, 0, none⟩ = some (.int .i64 a.c.wo) := H3.out.e.m.blk.at_ 0
         have bhe1 : W3.cell? ⟨p, 1, none⟩ = some (.int .i64 a.c.le) := H3.out.e.m.blk.at_ 1
         have bhe2 : W3.cell? ⟨p, 2, none⟩ = some (.int .i64 a.c.cl) := H3.out.e.m.blk.at_ 2
         have bhe3 : W3.cell? ⟨p, 3, none⟩ = some (.int .i64 a.c.ta) := H3.out.e.m.blk.at_ 3
         have bhe4 : W3.cell? ⟨p, 4, none⟩ = some (.int .i64 a.c.de) := H3.out.e.m.blk.at_ 4
         have bhe5 : W3.cell? ⟨p, 5, none⟩ = some (.int .i64 a.c.he) := H3.out.e.m.blk.at_ 5
         have bhe6 : W3.cell? ⟨p, 6, none⟩ = some (.int .i64 a.c.ba) := H3.out.e.m.blk.at_ 6
         have bhe7 : W3.cell? ⟨p, 7, none⟩ = some (.int .i64 a.c.ag) := H3.out.e.m.blk.at_ 7
         have bhe8 : W3.cell? ⟨p, 8, none⟩ = some (.int .i64 a.c.pa) := H3.out.e.m.blk.at_ 8
         have bhe9 : W3.cell? ⟨p, 9, none⟩ = some (.slice a.pa a.pn a.pc) := H3.out.e.m.blk.at_ 9
         have bhe10 : W3.cell? ⟨p, 10, none⟩ = some (.slice a.sa a.sn a.sc) := H3.out.e.m.blk.at_ 10
         have c16 : W3.cell? ⟨g, o + 16, none⟩ = some (.int .u64 f.fx) := H3.out.f.at_ 16 (by omega)
         have k16 := H3.out.f.free (o + 16)
         have s9 : (W3.setCell ⟨g, o + 16, none⟩ (.int .u64 (s.old (rSlot a.c (parD f.fi))))).cell? ⟨g, o + 9, none⟩ = some (.int .i64 f.fi) := by rw [World.cell?_setCell_other _ _ _ _ (by simp)]; exact bh9
         have se0 : (W3.setCell ⟨g, o + 16, none⟩ (.int .u64 (s.old (rSlot a.c (parD f.fi))))).cell? ⟨p, 0, none⟩ = some (.int .i64 a.c.wo) := by rw [World.cell?_setCell_other _ _ _ _ (by simp [hgp])]; exact bhe0
         have se1 : (W3.setCell ⟨g, o + 16, none⟩ (.int .u64 (s.old (rSlot a.c (parD f.fi))))).cell? ⟨p, 1, none⟩ = some (.int .i64 a.c.le) := by rw [World.cell?_setCell_other _ _ _ _ (by simp [hgp])]; exact bhe1
         have se2 : (W3.setCell ⟨g, o + 16, none⟩ (.int .u64 (s.old (rSlot a.c (parD f.fi))))).cell? ⟨p, 2, none⟩ = some (.int .i64 a.c.cl) := by rw [World.cell?_setCell_other _ _ _ _ (by simp [hgp])]; exact bhe2
         have se3 : (W3.setCell ⟨g, o + 16, none⟩ (.int .u64 (s.old (rSlot a.c (parD f.fi))))).cell? ⟨p, 3, none⟩ = some (.int .i64 a.c.ta) := by rw [World.cell?_setCell_other _ _ _ _ (by simp [hgp])]; exact bhe3
         have se4 : (W3.setCell ⟨g, o + 16, none⟩ (.int .u64 (s.old (rSlot a.c (parD f.fi))))).cell? ⟨p, 4, none⟩ = some (.int .i64 a.c.de) := by rw [World.cell?_setCell_other _ _ _ _ (by simp [hgp])]; exact bhe4
         have se5 : (W3.setCell ⟨g, o + 16, none⟩ (.int .u64 (s.old (rSlot a.c (parD f.fi))))).cell? ⟨p, 5, none⟩ = some (.int .i64 a.c.he) := by rw [World.cell?_setCell_other _ _ _ _ (by simp [hgp])]; exact bhe5
         have se6 : (W3.setCell ⟨g, o + 16, none⟩ (.int .u64 (s.old (rSlot a.c (parD f.fi))))).cell? ⟨p, 6, none⟩ = some (.int .i64 a.c.ba) := by rw [World.cell?_setCell_other _ _ _ _ (by simp [hgp])]; exact bhe6
         have se7 : (W3.setCell ⟨g, o + 16, none⟩ (.int .u64 (s.old (rSlot a.c (parD f.fi))))).cell? ⟨p, 7, none⟩ = some (.int .i64 a.c.ag) := by rw [World.cell?_setCell_other _ _ _ _ (by simp [hgp])]; exact bhe7
         have se8 : (W3.setCell ⟨g, o + 16, none⟩ (.int .u64 (s.old (rSlot a.c (parD f.fi))))).cell? ⟨p, 8, none⟩ = some (.int .i64 a.c.pa) := by rw [World.cell?_setCell_other _ _ _ _ (by simp [hgp])]; exact bhe8
         have se9 : (W3.setCell ⟨g, o + 16, none⟩ (.int .u64 (s.old (rSlot a.c (parD f.fi))))).cell? ⟨p, 9, none⟩ = some (.slice a.pa a.pn a.pc) := by rw [World.cell?_setCell_other _ _ _ _ (by simp [hgp])]; exact bhe9
         have se10 : (W3.setCell ⟨g, o + 16, none⟩ (.int .u64 (s.old (rSlot a.c (parD f.fi))))).cell? ⟨p, 10, none⟩ = some (.slice a.sa a.sn a.sc) := by rw [World.cell?_setCell_other _ _ _ _ (by simp [hgp])]; exact bhe10
         clear he hf))
  clear d9 de0 de1 de2 de3 de4 de5 de6 de7 de8 de9 de10 ah9 ahe0 ahe1 ahe2 ahe3 ahe4 ahe5 ahe6 ahe7 ahe8 ahe9 ahe10 bh9 bhe0 bhe1 bhe2 bhe3 bhe4 bhe5 bhe6 bhe7 bhe8 bhe9 bhe10 c16 k16 s9 se0 se1 se2 se3 se4 se5 se6 se7 se8 se9 se10 H0 H1 H2
  have H4 := Lib.hid (H3.out.set 16 (by omega) (.int .u64 (s.old (rSlot a.c (parD f.fi)))) { f with fx := s.old (rSlot a.c (parD f.fi)) } rfl)
  generalize (W3.setCell ⟨g, o + 16, none⟩ (.int .u64 (s.old (rSlot a.c (parD f.fi))))) = W4 at *
  clear H3
  go_wp2_with fail
  have c16 : W4.cell? ⟨g, o + 16, none⟩ = some (.int .u64 (s.old (rSlot a.c (parD f.fi)))) := H4.out.f.at_ 16 (by omega)
  have c15 : W4.cell? ⟨g, o + 15, none⟩ = some (.int .u64 f.fw) := H4.out.f.at_ 15 (by omega)
  go_quiet (fail)
  have H5 := Lib.hid (H4.out.drewN nq)
  clear c16 c15
  generalize W4.drewN nq = W5 at *
  clear H4
  have c1 : W5.cell? ⟨g, o + 1, none⟩ = some (.int .i64 f.ln) := H5.out.f.at_ 1 (by omega)
  have k1 := H5.out.f.free (o + 1)
  have r0 := H5.out.r.at_ 0
  have q0 := H5.out.r.free 0
  have r1 := H5.out.r.at_ 1
  have q1 := H5.out.r.free 1
  have r2 := H5.out.r.at_ 2
  have q2 := H5.out.r.free 2
  rw [hl] at c1
  go_wp2
  have H6 := Lib.hid (H5.out.set 1 (by omega) (.int .i64 (5)) { f with fx := s.old (rSlot a.c (parD f.fi)), ln := 5 } rfl)
  clear c1 k1 r0 q0 r1 q1 r2 q2
  refine bodyPost_ret (results_cell_row (P := Tryz.prog) Tryz.results88 _ _ w.heap.size 140 _ (0, 0) _ rfl (H6.out.res .none) Tryz.underlying140 rfl (by kernel_rfl)) rfl ?_
  exact H6.out.done .none
set_option maxRecDepth 100000 in
set_option maxHeartbeats 2000000 in
theorem insert_3b (he : EnvF B w p a s es rs) (hf : FrameP w g o pre post f) (hB : B ≤ g) (hin : CfgIn a.c) (hl : f.ln = 3) (hx : f.fw < s.old (rSlot a.c (parD f.fi))) :
    Calls Tryz.prog 88 #[.pointer (some ⟨p, 0, none⟩), .pointer (some ⟨g, o, none⟩)] w (Line B p g o pre post a .none (s.go 1 (rSlot a.c (parD f.fi)) id) es rs { f with fx := s.old (rSlot a.c (parD f.fi)), ln := 4 } w) := by
  have h0 := LSt.start he hf hB
  have H0 := Lib.hid h0
  have hng : g ≠ w.heap.size := by have := h0.lf; omega
  have hng1 := hng.symm
  have hgp : g ≠ p := (h0.f.ne h0.e.m).1
  clear he hf hB
  have c1 : (w.alloc (.cells (rcells' .none) 140)).cell? ⟨g, o + 1, none⟩ = some (.int .i64 f.ln) := H0.out.f.at_ 1 (by omega)
  rw [hl] at c1
  go_enter Tryz.func88, Tryz.ntmps88
  go_upto_region 1 with fail
  generalize (w.alloc (.cells (rcells' .none) 140)) = W0 at *
  clear h0
  go_upto_region 17 with fail
  clear c1
  have H1 := Lib.hid H0.out.drew
  have d9 : W0.drew.cell? ⟨g, o + 9, none⟩ = some (.int .i64 f.fi) := H1.out.f.at_ 9 (by omega)
  have de0 : W0.drew.cell? ⟨p, 0, none⟩ = some (.int .i64 a.c.wo) := H1.out.e.m.blk.at_ 0
  have de1 : W0.drew.cell? ⟨p, 1, none⟩ = some (.int .i64 a.c.le) := H1.out.e.m.blk.at_ 1
  have de2 : W0.drew.cell? ⟨p, 2, none⟩ = some (.int .i64 a.c.cl) := H1.out.e.m.blk.at_ 2
  have de3 : W0.drew.cell? ⟨p, 3, none⟩ = some (.int .i64 a.c.ta) := H1.out.e.m.blk.at_ 3
  have de4 : W0.drew.cell? ⟨p, 4, none⟩ = some (.int .i64 a.c.de) := H1.out.e.m.blk.at_ 4
  have de5 : W0.drew.cell? ⟨p, 5, none⟩ = some (.int .i64 a.c.he) := H1.out.e.m.blk.at_ 5
  have de6 : W0.drew.cell? ⟨p, 6, none⟩ = some (.int .i64 a.c.ba) := H1.out.e.m.blk.at_ 6
  have de7 : W0.drew.cell? ⟨p, 7, none⟩ = some (.int .i64 a.c.ag) := H1.out.e.m.blk.at_ 7
  have de8 : W0.drew.cell? ⟨p, 8, none⟩ = some (.int .i64 a.c.pa) := H1.out.e.m.blk.at_ 8
  have de9 : W0.drew.cell? ⟨p, 9, none⟩ = some (.slice a.pa a.pn a.pc) := H1.out.e.m.blk.at_ 9
  have de10 : W0.drew.cell? ⟨p, 10, none⟩ = some (.slice a.sa a.sn a.sc) := H1.out.e.m.blk.at_ 10
  go_region_held3 (fun w' => w'.cell? ⟨g, o + 9, none⟩ = some (.int .i64 f.fi) ∧ w'.cell? ⟨p, 0, none⟩ = some (.int .i64 a.c.wo) ∧ w'.cell? ⟨p, 1, none⟩ = some (.int .i64 a.c.le) ∧ w'.cell? ⟨p, 2, none⟩ = some (.int .i64 a.c.cl) ∧ w'.cell? ⟨p, 3, none⟩ = some (.int .i64 a.c.ta) ∧ w'.cell? ⟨p, 4, none⟩ = some (.int .i64 a.c.de) ∧ w'.cell? ⟨p, 5, none⟩ = some (.int .i64 a.c.he) ∧ w'.cell? ⟨p, 6, none⟩ = some (.int .i64 a.c.ba) ∧ w'.cell? ⟨p, 7, none⟩ = some (.int .i64 a.c.ag) ∧ w'.cell? ⟨p, 8, none⟩ = some (.int .i64 a.c.pa) ∧ w'.cell? ⟨p, 9, none⟩ = some (.slice a.pa a.pn a.pc) ∧ w'.cell? ⟨p, 10, none⟩ = some (.slice a.sa a.sn a.sc)) ((first | exact ⟨s9, se0, se1, se2, se3, se4, se5, se6, se7, se8, se9, se10⟩ | go_keep))
    (first
      | (go_at_call 10
         refine (slot_any hin _).mono ?_
         rintro e W2 ⟨rfl, hb⟩
         have H2 := Lib.hid (H1.out.below hb)
         have ah9 : W2.cell? ⟨g, o + 9, none⟩ = some (.int .i64 f.fi) := H2.out.f.at_ 9 (by omega)
         have ahe0 : W2.cell? ⟨p, 0, none⟩ = some (.int .i64 a.c.wo) := H2.out.e.m.blk.at_ 0
         have ahe1 : W2.cell? ⟨p, 1, none⟩ = some (.int .i64 a.c.le) := H2.out.e.m.blk.at_ 1
         have ahe2 : W2.cell? ⟨p, 2, none⟩ = some (.int .i64 a.c.cl) := H2.out.e.m.blk.at_ 2
         have ahe3 : W2.cell? ⟨p, 3, none⟩ = some (.int .i64 a.c.ta) := H2.out.e.m.blk.at_ 3
         have ahe4 : W2.cell? ⟨p, 4, none⟩ = some (.int .i64 a.c.de) := H2.out.e.m.blk.at_ 4
         have ahe5 : W2.cell? ⟨p, 5, none⟩ = some (.int .i64 a.c.he) := H2.out.e.m.blk.at_ 5
         have ahe6 : W2.cell? ⟨p, 6, none⟩ = some (.int .i64 a.c.ba) := H2.out.e.m.blk.at_ 6
         have ahe7 : W2.cell? ⟨p, 7, none⟩ = some (.int .i64 a.c.ag) := H2.out.e.m.blk.at_ 7
         have ahe8 : W2.cell? ⟨p, 8, none⟩ = some (.int .i64 a.c.pa) := H2.out.e.m.blk.at_ 8
         have ahe9 : W2.cell? ⟨p, 9, none⟩ = some (.slice a.pa a.pn a.pc) := H2.out.e.m.blk.at_ 9
         have ahe10 : W2.cell? ⟨p, 10, none⟩ = some (.slice a.sa a.sn a.sc) := H2.out.e.m.blk.at_ 10
         clear hb)
      | (go_at_call 84
         refine (eload_any H2.out.e.m _).mono ?_
         rintro e W3 ⟨rfl, he, hf⟩
         have H3 := Lib.hid (H2.out.acc he hf)
         have bh9 : W3.cell? ⟨g, o + 9, none⟩ = some (.int .i64 f.fi) := H3.out.f.at_ 9 (by omega)
         have bhe0 : W3.cell? ⟨p, 0, none⟩ = some (.int .i64 a.c.wo) := H3.out.e.m.blk.at_ 0
         have bhe1 : W3.cell? ⟨p, 1, none⟩ = some (.int .i64 a.c.le) := H3.out.e.m.blk.at_ 1
         have bhe2 : W3.cell? ⟨p, 2, none⟩ = some (.int .i64 a.c.cl) := H3.out.e.m.blk.at_ 2
         have bhe3 : W3.cell? ⟨p, 3, none⟩ = some (.int .i64 a.c.ta) := H3.out.e.m.blk.at_ 3
         have bhe4 : W3.cell? ⟨p, 4, none⟩ = some (.int .i64 a.c.de) := H3.out.e.m.blk.at_ 4
         have bhe5 : W3.cell? ⟨p, 5, none⟩ = some (.int .i64 a.c.he) := H3.out.e.m.blk.at_ 5
         have bhe6 : W3.cell? ⟨p, 6, none⟩ = some (.int .i64 a.c.ba) := H3.out.e.m.blk.at_ 6
         have bhe7 : W3.cell? ⟨p, 7, none⟩ = some (.int .i64 a.c.ag) := H3.out.e.m.blk.at_ 7
         have bhe8 : W3.cell? ⟨p, 8, none⟩ = some (.int .i64 a.c.pa) := H3.out.e.m.blk.at_ 8
         have bhe9 : W3.cell? ⟨p, 9, none⟩ = some (.slice a.pa a.pn a.pc) := H3.out.e.m.blk.at_ 9
         have bhe10 : W3.cell? ⟨p, 10, none⟩ = some (.slice a.sa a.sn a.sc) := H3.out.e.m.blk.at_ 10
         have c16 : W3.cell? ⟨g, o + 16, none⟩ = some (.int .u64 f.fx) := H3.out.f.at_ 16 (by omega)
         have k16 := H3.out.f.free (o + 16)
         have s9 : (W3.setCell ⟨g, o + 16, none⟩ (.int .u64 (s.old (rSlot a.c (parD f.fi))))).cell? ⟨g, o + 9, none⟩ = some (.int .i64 f.fi) := by rw [World.cell?_setCell_other _ _ _ _ (by simp)]; exact bh9
         have se0 : (W3.setCell ⟨g, o + 16, none⟩ (.int .u64 (s.old (rSlot a.c (parD f.fi))))).cell? ⟨p, 0, none⟩ = some (.int .i64 a.c.wo) := by rw [World.cell?_setCell_other _ _ _ _ (by simp [hgp])]; exact bhe0
         have se1 : (W3.setCell ⟨g, o + 16, none⟩ (.int .u64 (s.old (rSlot a.c (parD f.fi))))).cell? ⟨p, 1, none⟩ = some (.int .i64 a.c.le) := by rw [World.cell?_setCell_other _ _ _ _ (by simp [hgp])]; exact bhe1
         have se2 : (W3.setCell ⟨g, o + 16, none⟩ (.int .u64 (s.old (rSlot a.c (parD f.fi))))).cell? ⟨p, 2, none⟩ = some (.int .i64 a.c.cl) := by rw [World.cell?_setCell_other _ _ _ _ (by simp [hgp])]; exact bhe2
         have se3 : (W3.setCell ⟨g, o + 16, none⟩ (.int .u64 (s.old (rSlot a.c (parD f.fi))))).cell? ⟨p, 3, none⟩ = some (.int .i64 a.c.ta) := by rw [World.cell?_setCell_other _ _ _ _ (by simp [hgp])]; exact bhe3
         have se4 : (W3.setCell ⟨g, o + 16, none⟩ (.int .u64 (s.old (rSlot a.c (parD f.fi))))).cell? ⟨p, 4, none⟩ = some (.int .i64 a.c.de) := by rw [World.cell?_setCell_other _ _ _ _ (by simp [hgp])]; exact bhe4
         have se5 : (W3.setCell ⟨g, o + 16, none⟩ (.int .u64 (s.old (rSlot a.c (parD f.fi))))).cell? ⟨p, 5, none⟩ = some (.int .i64 a.c.he) := by rw [World.cell?_setCell_other _ _ _ _ (by simp [hgp])]; exact bhe5
         have se6 : (W3.setCell ⟨g, o + 16, none⟩ (.int .u64 (s.old (rSlot a.c (parD f.fi))))).cell? ⟨p, 6, none⟩ = some (.int .i64 a.c.ba) := by rw [World.cell?_setCell_other _ _ _ _ (by simp [hgp])]; exact bhe6
         have se7 : (W3.setCell ⟨g, o + 16, none⟩ (.int .u64 (s.old (rSlot a.c (parD f.fi))))).cell? ⟨p, 7, none⟩ = some (.int .i64 a.c.ag) := by rw [World.cell?_setCell_other _ _ _ _ (by simp [hgp])]; exact bhe7
         have se8 : (W3.setCell ⟨g, o + 16, none⟩ (.int .u64 (s.old (rSlot a.c (parD f.fi))))).cell? ⟨p, 8, none⟩ = some (.int .i64 a.c.pa) := by rw [World.cell?_setCell_other _ _ _ _ (by simp [hgp])]; exact bhe8
         have se9 : (W3.setCell ⟨g, o + 16, none⟩ (.int .u64 (s.old (rSlot a.c (parD f.fi))))).cell? ⟨p, 9, none⟩ = some (.slice a.pa a.pn a.pc) := by rw [World.cell?_setCell_other _ _ _ _ (by simp [hgp])]; exact bhe9
         have se10 : (W3.setCell ⟨g, o + 16, none⟩ (.int .u64 (s.old (rSlot a.c (parD f.fi))))).cell? ⟨p, 10, none⟩ = some (.slice a.sa a.sn a.sc) := by rw [World.cell?_setCell_other _ _ _ _ (by simp [hgp])]; exact bhe10
         clear he hf))
  clear d9 de0 de1 de2 de3 de4 de5 de6 de7 de8 de9 de10 ah9 ahe0 ahe1 ahe2 ahe3 ahe4 ahe5 ahe6 ahe7 ahe8 ahe9 ahe10 bh9 bhe0 bhe1 bhe2 bhe3 bhe4 bhe5 bhe6 bhe7 bhe8 bhe9 bhe10 c16 k16 s9 se0 se1 se2 se3 se4 se5 se6 se7 se8 se9 se10 H0 H1 H2
  have H4 := Lib.hid (H3.out.set 16 (by omega) (.int .u64 (s.old (rSlot a.c (parD f.fi)))) { f with fx := s.old (rSlot a.c (parD f.fi)) } rfl)
  generalize (W3.setCell ⟨g, o + 16, none⟩ (.int .u64 (s.old (rSlot a.c (parD f.fi))))) = W4 at *
  clear H3
  go_wp2_with fail
  have c16 : W4.cell? ⟨g, o + 16, none⟩ = some (.int .u64 (s.old (rSlot a.c (parD f.fi)))) := H4.out.f.at_ 16 (by omega)
  have c15 : W4.cell? ⟨g, o + 15, none⟩ = some (.int .u64 f.fw) := H4.out.f.at_ 15 (by omega)
  go_quiet (fail)
  have H5 := Lib.hid (H4.out.drewN nq)
  clear c16 c15
  generalize W4.drewN nq = W5 at *
  clear H4
  have c1 : W5.cell? ⟨g, o + 1, none⟩ = some (.int .i64 f.ln) := H5.out.f.at_ 1 (by omega)
  have k1 := H5.out.f.free (o + 1)
  have r0 := H5.out.r.at_ 0
  have q0 := H5.out.r.free 0
  have r1 := H5.out.r.at_ 1
  have q1 := H5.out.r.free 1
  have r2 := H5.out.r.at_ 2
  have q2 := H5.out.r.free 2
  rw [hl] at c1
  go_wp2
  have H6 := Lib.hid (H5.out.set 1 (by omega) (.int .i64 (4)) { f with fx := s.old (rSlot a.c (parD f.fi)), ln := 4 } rfl)
  clear c1 k1 r0 q0 r1 q1 r2 q2
  refine bodyPost_ret (results_cell_row (P := Tryz.prog) Tryz.results88 _ _ w.heap.size 140 _ (0, 0) _ rfl (H6.out.res .none) Tryz.underlying140 rfl (by kernel_rfl)) rfl ?_
  exact H6.out.done .none
set_option maxRecDepth 100000 in
set_option maxHeartbeats 2000000 in
theorem insert_4a (he : EnvF B w p a s es rs) (hf : FrameP w g o pre post f) (hB : B ≤ g) (hin : CfgIn a.c) (hl : f.ln = 4) (hx : parI f.fi ≤ 0) :
    Calls Tryz.prog 88 #[.pointer (some ⟨p, 0, none⟩), .pointer (some ⟨g, o, none⟩)] w (Line B p g o pre post a .none (s.go 2 (rSlot a.c f.fi) (fun _ => f.fx)) es rs { f with fi := parI f.fi, ln := 5 } w) := by
  have h0 := LSt.start he hf hB
  have H0 := Lib.hid h0
  have hng : g ≠ w.heap.size := by have := h0.lf; omega
  have hng1 := hng.symm
  have hgp : g ≠ p := (h0.f.ne h0.e.m).1
  clear he hf hB
  obtain ⟨z, hz⟩ : ∃ z, parI f.fi = z := ⟨_, rfl⟩
  rw [hz] at hx ⊢
  have HZ := Lib.hid hz
  clear hz
  have c1 : (w.alloc (.cells (rcells' .none) 140)).cell? ⟨g, o + 1, none⟩ = some (.int .i64 f.ln) := H0.out.f.at_ 1 (by omega)
  rw [hl] at c1
  go_enter Tryz.func88, Tryz.ntmps88
  go_upto_region 1 with fail
  generalize (w.alloc (.cells (rcells' .none) 140)) = W0 at *
  clear h0
  go_upto_region 21 with fail
  clear c1
  have H1 := Lib.hid H0.out.drew
  have d9 : W0.drew.cell? ⟨g, o + 9, none⟩ = some (.int .i64 f.fi) := H1.out.f.at_ 9 (by omega)
  have d16 : W0.drew.cell? ⟨g, o + 16, none⟩ = some (.int .u64 f.fx) := H1.out.f.at_ 16 (by omega)
  have de0 : W0.drew.cell? ⟨p, 0, none⟩ = some (.int .i64 a.c.wo) := H1.out.e.m.blk.at_ 0
  have de1 : W0.drew.cell? ⟨p, 1, none⟩ = some (.int .i64 a.c.le) := H1.out.e.m.blk.at_ 1
  have de2 : W0.drew.cell? ⟨p, 2, none⟩ = some (.int .i64 a.c.cl) := H1.out.e.m.blk.at_ 2
  have de3 : W0.drew.cell? ⟨p, 3, none⟩ = some (.int .i64 a.c.ta) := H1.out.e.m.blk.at_ 3
  have de4 : W0.drew.cell? ⟨p, 4, none⟩ = some (.int .i64 a.c.de) := H1.out.e.m.blk.at_ 4
  have de5 : W0.drew.cell? ⟨p, 5, none⟩ = some (.int .i64 a.c.he) := H1.out.e.m.blk.at_ 5
  have de6 : W0.drew.cell? ⟨p, 6, none⟩ = some (.int .i64 a.c.ba) := H1.out.e.m.blk.at_ 6
  have de7 : W0.drew.cell? ⟨p, 7, none⟩ = some (.int .i64 a.c.ag) := H1.out.e.m.blk.at_ 7
  have de8 : W0.drew.cell? ⟨p, 8, none⟩ = some (.int .i64 a.c.pa) := H1.out.e.m.blk.at_ 8
  have de9 : W0.drew.cell? ⟨p, 9, none⟩ = some (.slice a.pa a.pn a.pc) := H1.out.e.m.blk.at_ 9
  have de10 : W0.drew.cell? ⟨p, 10, none⟩ = some (.slice a.sa a.sn a.sc) := H1.out.e.m.blk.at_ 10
  go_region_held3 (fun w' => w'.cell? ⟨g, o + 9, none⟩ = some (.int .i64 f.fi) ∧ w'.cell? ⟨g, o + 16, none⟩ = some (.int .u64 f.fx) ∧ w'.cell? ⟨p, 0, none⟩ = some (.int .i64 a.c.wo) ∧ w'.cell? ⟨p, 1, none⟩ = some (.int .i64 a.c.le) ∧ w'.cell? ⟨p, 2, none⟩ = some (.int .i64 a.c.cl) ∧ w'.cell? ⟨p, 3, none⟩ = some (.int .i64 a.c.ta) ∧ w'.cell? ⟨p, 4, none⟩ = some (.int .i64 a.c.de) ∧ w'.cell? ⟨p, 5, none⟩ = some (.int .i64 a.c.he) ∧ w'.cell? ⟨p, 6, none⟩ = some (.int .i64 a.c.ba) ∧ w'.cell? ⟨p, 7, none⟩ = some (.int .i64 a.c.ag) ∧ w'.cell? ⟨p, 8, none⟩ = some (.int .i64 a.c.pa) ∧ w'.cell? ⟨p, 9, none⟩ = some (.slice a.pa a.pn a.pc) ∧ w'.cell? ⟨p, 10, none⟩ = some (.slice a.sa a.sn a.sc)) (go_keep)
    (first
      | (go_at_call 10
         refine (slot_any hin _).mono ?_
         rintro e W2 ⟨rfl, hb⟩
         have H2 := Lib.hid (H1.out.below hb)
         have ah9 : W2.cell? ⟨g, o + 9, none⟩ = some (.int .i64 f.fi) := H2.out.f.at_ 9 (by omega)
         have ah16 : W2.cell? ⟨g, o + 16, none⟩ = some (.int .u64 f.fx) := H2.out.f.at_ 16 (by omega)
         have ahe0 : W2.cell? ⟨p, 0, none⟩ = some (.int .i64 a.c.wo) := H2.out.e.m.blk.at_ 0
         have ahe1 : W2.cell? ⟨p, 1, none⟩ = some (.int .i64 a.c.le) := H2.out.e.m.blk.at_ 1
         have ahe2 : W2.cell? ⟨p, 2, none⟩ = some (.int .i64 a.c.cl) := H2.out.e.m.blk.at_ 2
         have ahe3 : W2.cell? ⟨p, 3, none⟩ = some (.int .i64 a.c.ta) := H2.out.e.m.blk.at_ 3
         have ahe4 : W2.cell? ⟨p, 4, none⟩ = some (.int .i64 a.c.de) := H2.out.e.m.blk.at_ 4
         have ahe5 : W2.cell? ⟨p, 5, none⟩ = some (.int .i64 a.c.he) := H2.out.e.m.blk.at_ 5
         have ahe6 : W2.cell? ⟨p, 6, none⟩ = some (.int .i64 a.c.ba) := H2.out.e.m.blk.at_ 6
         have ahe7 : W2.cell? ⟨p, 7, none⟩ = some (.int .i64 a.c.ag) := H2.out.e.m.blk.at_ 7
         have ahe8 : W2.cell? ⟨p, 8, none⟩ = some (.int .i64 a.c.pa) := H2.out.e.m.blk.at_ 8
         have ahe9 : W2.cell? ⟨p, 9, none⟩ = some (.slice a.pa a.pn a.pc) := H2.out.e.m.blk.at_ 9
         have ahe10 : W2.cell? ⟨p, 10, none⟩ = some (.slice a.sa a.sn a.sc) := H2.out.e.m.blk.at_ 10
         clear hb)
      | (go_at_call 87
         refine (estore_any H2.out.e.m _ _).mono ?_
         rintro e W3 ⟨rfl, he, hf⟩
         have H3 := Lib.hid (H2.out.acc he hf)
         have bh9 : W3.cell? ⟨g, o + 9, none⟩ = some (.int .i64 f.fi) := H3.out.f.at_ 9 (by omega)
         have bh16 : W3.cell? ⟨g, o + 16, none⟩ = some (.int .u64 f.fx) := H3.out.f.at_ 16 (by omega)
         have bhe0 : W3.cell? ⟨p, 0, none⟩ = some (.int .i64 a.c.wo) := H3.out.e.m.blk.at_ 0
         have bhe1 : W3.cell? ⟨p, 1, none⟩ = some (.int .i64 a.c.le) := H3.out.e.m.blk.at_ 1
         have bhe2 : W3.cell? ⟨p, 2, none⟩ = some (.int .i64 a.c.cl) := H3.out.e.m.blk.at_ 2
         have bhe3 : W3.cell? ⟨p, 3, none⟩ = some (.int .i64 a.c.ta) := H3.out.e.m.blk.at_ 3
         have bhe4 : W3.cell? ⟨p, 4, none⟩ = some (.int .i64 a.c.de) := H3.out.e.m.blk.at_ 4
         have bhe5 : W3.cell? ⟨p, 5, none⟩ = some (.int .i64 a.c.he) := H3.out.e.m.blk.at_ 5
         have bhe6 : W3.cell? ⟨p, 6, none⟩ = some (.int .i64 a.c.ba) := H3.out.e.m.blk.at_ 6
         have bhe7 : W3.cell? ⟨p, 7, none⟩ = some (.int .i64 a.c.ag) := H3.out.e.m.blk.at_ 7
         have bhe8 : W3.cell? ⟨p, 8, none⟩ = some (.int .i64 a.c.pa) := H3.out.e.m.blk.at_ 8
         have bhe9 : W3.cell? ⟨p, 9, none⟩ = some (.slice a.pa a.pn a.pc) := H3.out.e.m.blk.at_ 9
         have bhe10 : W3.cell? ⟨p, 10, none⟩ = some (.slice a.sa a.sn a.sc) := H3.out.e.m.blk.at_ 10
         clear he hf))
  clear d9 d16 de0 de1 de2 de3 de4 de5 de6 de7 de8 de9 de10 ah9 ah16 ahe0 ahe1 ahe2 ahe3 ahe4 ahe5 ahe6 ahe7 ahe8 ahe9 ahe10 bh9 bh16 bhe0 bhe1 bhe2 bhe3 bhe4 bhe5 bhe6 bhe7 bhe8 bhe9 bhe10 H0 H1 H2
  have c1 : W3.cell? ⟨g, o + 1, none⟩ = some (.int .i64 f.ln) := H3.out.f.at_ 1 (by omega)
  have c9 : W3.cell? ⟨g, o + 9, none⟩ = some (.int .i64 f.fi) := H3.out.f.at_ 9 (by omega)
  have k9 := H3.out.f.free (o + 9)
  have k1 := H3.out.f.free (o + 1)
  have r0 := H3.out.r.at_ 0
  have q0 := H3.out.r.free 0
  have r1 := H3.out.r.at_ 1
  have q1 := H3.out.r.free 1
  have r2 := H3.out.r.at_ 2
  have q2 := H3.out.r.free 2
  rw [hl] at c1
  have hz : wrap64 ((wrap64 (f.fi - 1)).tdiv 2) = z := HZ.out
  go_wp2
  have H4 := Lib.hid ((H3.out.set 9 (by omega) (.int .i64 (z)) { f with fi := z } rfl).set 1 (by omega) (.int .i64 (5)) { f with fi := z, ln := 5 } rfl)
  clear c1 c9 k9 k1 r0 q0 r1 q1 r2 q2
  refine bodyPost_ret (results_cell_row (P := Tryz.prog) Tryz.results88 _ _ w.heap.size 140 _ (0, 0) _ rfl (H4.out.res .none) Tryz.underlying140 rfl (by kernel_rfl)) rfl ?_
  exact H4.out.done .none
set_option maxRecDepth 100000 in
set_option maxHeartbeats 2000000 in
theorem insert_4b (he : EnvF B w p a s es rs) (hf : FrameP w g o pre post f) (hB : B ≤ g) (hin : CfgIn a.c) (hl : f.ln = 4) (hx : 0 < parI f.fi) :
    Calls Tryz.prog 88 #[.pointer (some ⟨p, 0, none⟩), .pointer (some ⟨g, o, none⟩)] w (Line B p g o pre post a .none (s.go 2 (rSlot a.c f.fi) (fun _ => f.fx)) es rs { f with fi := parI f.fi, ln := 3 } w) := by
  have h0 := LSt.start he hf hB
  have H0 := Lib.hid h0
  have hng : g ≠ w.heap.size := by have := h0.lf; omega
  have hng1 := hng.symm
  have hgp : g ≠ p := (h0.f.ne h0.e.m).1
  clear he hf hB
  obtain ⟨z, hz⟩ : ∃ z, parI f.fi = z := ⟨_, rfl⟩
  rw [hz] at hx ⊢
  have HZ := Lib.hid hz
  clear hz
  have c1 : (w.alloc (.cells (rcells' .none) 140)).cell? ⟨g, o + 1, none⟩ = some (.int .i64 f.ln) := H0.out.f.at_ 1 (by omega)
  rw [hl] at c1
  go_enter Tryz.func88, Tryz.ntmps88
  go_upto_region 1 with fail
  generalize (w.alloc (.cells (rcells' .none) 140)) = W0 at *
  clear h0
  go_upto_region 21 with fail
  clear c1
  have H1 := Lib.hid H0.out.drew
  have d9 : W0.drew.cell? ⟨g, o + 9, none⟩ = some (.int .i64 f.fi) := H1.out.f.at_ 9 (by omega)
  have d16 : W0.drew.cell? ⟨g, o + 16, none⟩ = some (.int .u64 f.fx) := H1.out.f.at_ 16 (by omega)
  have de0 : W0.drew.cell? ⟨p, 0, none⟩ = some (.int .i64 a.c.wo) := H1.out.e.m.blk.at_ 0
  have de1 : W0.drew.cell? ⟨p, 1, none⟩ = some (.int .i64 a.c.le) := H1.out.e.m.blk.at_ 1
  have de2 : W0.drew.cell? ⟨p, 2, none⟩ = some (.int .i64 a.c.cl) := H1.out.e.m.blk.at_ 2
  have de3 : W0.drew.cell? ⟨p, 3, none⟩ = some (.int .i64 a.c.ta) := H1.out.e.m.blk.at_ 3
  have de4 : W0.drew.cell? ⟨p, 4, none⟩ = some (.int .i64 a.c.de) := H1.out.e.m.blk.at_ 4
  have de5 : W0.drew.cell? ⟨p, 5, none⟩ = some (.int .i64 a.c.he) := H1.out.e.m.blk.at_ 5
  have de6 : W0.drew.cell? ⟨p, 6, none⟩ = some (.int .i64 a.c.ba) := H1.out.e.m.blk.at_ 6
  have de7 : W0.drew.cell? ⟨p, 7, none⟩ = some (.int .i64 a.c.ag) := H1.out.e.m.blk.at_ 7
  have de8 : W0.drew.cell? ⟨p, 8, none⟩ = some (.int .i64 a.c.pa) := H1.out.e.m.blk.at_ 8
  have de9 : W0.drew.cell? ⟨p, 9, none⟩ = some (.slice a.pa a.pn a.pc) := H1.out.e.m.blk.at_ 9
  have de10 : W0.drew.cell? ⟨p, 10, none⟩ = some (.slice a.sa a.sn a.sc) := H1.out.e.m.blk.at_ 10
  go_region_held3 (fun w' => w'.cell? ⟨g, o + 9, none⟩ = some (.int .i64 f.fi) ∧ w'.cell? ⟨g, o + 16, none⟩ = some (.int .u64 f.fx) ∧ w'.cell? ⟨p, 0, none⟩ = some (.int .i64 a.c.wo) ∧ w'.cell? ⟨p, 1, none⟩ = some (.int .i64 a.c.le) ∧ w'.cell? ⟨p, 2, none⟩ = some (.int .i64 a.c.cl) ∧ w'.cell? ⟨p, 3, none⟩ = some (.int .i64 a.c.ta) ∧ w'.cell? ⟨p, 4, none⟩ = some (.int .i64 a.c.de) ∧ w'.cell? ⟨p, 5, none⟩ = some (.int .i64 a.c.he) ∧ w'.cell? ⟨p, 6, none⟩ = some (.int .i64 a.c.ba) ∧ w'.cell? ⟨p, 7, none⟩ = some (.int .i64 a.c.ag) ∧ w'.cell? ⟨p, 8, none⟩ = some (.int .i64 a.c.pa) ∧ w'.cell? ⟨p, 9, none⟩ = some (.slice a.pa a.pn a.pc) ∧ w'.cell? ⟨p, 10, none⟩ = some (.slice a.sa a.sn a.sc)) (go_keep)
    (first
      | (go_at_call 10
         refine (slot_any hin _).mono ?_
         rintro e W2 ⟨rfl, hb⟩
         have H2 := Lib.hid (H1.out.below hb)
         have ah9 : W2.cell? ⟨g, o + 9, none⟩ = some (.int .i64 f.fi) := H2.out.f.at_ 9 (by omega)
         have ah16 : W2.cell? ⟨g, o + 16, none⟩ = some (.int .u64 f.fx) := H2.out.f.at_ 16 (by omega)
         have ahe0 : W2.cell? ⟨p, 0, none⟩ = some (.int .i64 a.c.wo) := H2.out.e.m.blk.at_ 0
         have ahe1 : W2.cell? ⟨p, 1, none⟩ = some (.int .i64 a.c.le) := H2.out.e.m.blk.at_ 1
         have ahe2 : W2.cell? ⟨p, 2, none⟩ = some (.int .i64 a.c.cl) := H2.out.e.m.blk.at_ 2
         have ahe3 : W2.cell? ⟨p, 3, none⟩ = some (.int .i64 a.c.ta) := H2.out.e.m.blk.at_ 3
         have ahe4 : W2.cell? ⟨p, 4, none⟩ = some (.int .i64 a.c.de) := H2.out.e.m.blk.at_ 4
         have ahe5 : W2.cell? ⟨p, 5, none⟩ = some (.int .i64 a.c.he) := H2.out.e.m.blk.at_ 5
         have ahe6 : W2.cell? ⟨p, 6, none⟩ = some (.int .i64 a.c.ba) := H2.out.e.m.blk.at_ 6
         have ahe7 : W2.cell? ⟨p, 7, none⟩ = some (.int .i64 a.c.ag) := H2.out.e.m.blk.at_ 7
         have ahe8 : W2.cell? ⟨p, 8, none⟩ = some (.int .i64 a.c.pa) := H2.out.e.m.blk.at_ 8
         have ahe9 : W2.cell? ⟨p, 9, none⟩ = some (.slice a.pa a.pn a.pc) := H2.out.e.m.blk.at_ 9
         have ahe10 : W2.cell? ⟨p, 10, none⟩ = some (.slice a.sa a.sn a.sc) := H2.out.e.m.blk.at_ 10
         clear hb)
      | (go_at_call 87
         refine (estore_any H2.out.e.m _ _).mono ?_
         rintro e W3 ⟨rfl, he, hf⟩
         have H3 := Lib.hid (H2.out.acc he hf)
         have bh9 : W3.cell? ⟨g, o + 9, none⟩ = some (.int .i64 f.fi) := H3.out.f.at_ 9 (by omega)
         have bh16 : W3.cell? ⟨g, o + 16, none⟩ = some (.int .u64 f.fx) := H3.out.f.at_ 16 (by omega)
         have bhe0 : W3.cell? ⟨p, 0, none⟩ = some (.int .i64 a.c.wo) := H3.out.e.m.blk.at_ 0
         have bhe1 : W3.cell? ⟨p, 1, none⟩ = some (.int .i64 a.c.le) := H3.out.e.m.blk.at_ 1
         have bhe2 : W3.cell? ⟨p, 2, none⟩ = some (.int .i64 a.c.cl) := H3.out.e.m.blk.at_ 2
         have bhe3 : W3.cell? ⟨p, 3, none⟩ = some (.int .i64 a.c.ta) := H3.out.e.m.blk.at_ 3
         have bhe4 : W3.cell? ⟨p, 4, none⟩ = some (.int .i64 a.c.de) := H3.out.e.m.blk.at_ 4
         have bhe5 : W3.cell? ⟨p, 5, none⟩ = some (.int .i64 a.c.he) := H3.out.e.m.blk.at_ 5
         have bhe6 : W3.cell? ⟨p, 6, none⟩ = some (.int .i64 a.c.ba) := H3.out.e.m.blk.at_ 6
         have bhe7 : W3.cell? ⟨p, 7, none⟩ = some (.int .i64 a.c.ag) := H3.out.e.m.blk.at_ 7
         have bhe8 : W3.cell? ⟨p, 8, none⟩ = some (.int .i64 a.c.pa) := H3.out.e.m.blk.at_ 8
         have bhe9 : W3.cell? ⟨p, 9, none⟩ = some (.slice a.pa a.pn a.pc) := H3.out.e.m.blk.at_ 9
         have bhe10 : W3.cell? ⟨p, 10, none⟩ = some (.slice a.sa a.sn a.sc) := H3.out.e.m.blk.at_ 10
         clear he hf))
  clear d9 d16 de0 de1 de2 de3 de4 de5 de6 de7 de8 de9 de10 ah9 ah16 ahe0 ahe1 ahe2 ahe3 ahe4 ahe5 ahe6 ahe7 ahe8 ahe9 ahe10 bh9 bh16 bhe0 bhe1 bhe2 bhe3 bhe4 bhe5 bhe6 bhe7 bhe8 bhe9 bhe10 H0 H1 H2
  have c1 : W3.cell? ⟨g, o + 1, none⟩ = some (.int .i64 f.ln) := H3.out.f.at_ 1 (by omega)
  have c9 : W3.cell? ⟨g, o + 9, none⟩ = some (.int .i64 f.fi) := H3.out.f.at_ 9 (by omega)
  have k9 := H3.out.f.free (o + 9)
  have k1 := H3.out.f.free (o + 1)
  have r0 := H3.out.r.at_ 0
  have q0 := H3.out.r.free 0
  have r1 := H3.out.r.at_ 1
  have q1 := H3.out.r.free 1
  have r2 := H3.out.r.at_ 2
  have q2 := H3.out.r.free 2
  rw [hl] at c1
  have hz : wrap64 ((wrap64 (f.fi - 1)).tdiv 2) = z := HZ.out
  go_wp2
  have H4 := Lib.hid ((H3.out.set 9 (by omega) (.int .i64 (z)) { f with fi := z } rfl).set 1 (by omega) (.int .i64 (3)) { f with fi := z, ln := 3 } rfl)
  clear c1 c9 k9 k1 r0 q0 r1 q1 r2 q2
  refine bodyPost_ret (results_cell_row (P := Tryz.prog) Tryz.results88 _ _ w.heap.size 140 _ (0, 0) _ rfl (H4.out.res .none) Tryz.underlying140 rfl (by kernel_rfl)) rfl ?_
  exact H4.out.done .none
set_option maxRecDepth 100000 in
set_option maxHeartbeats 2000000 in
theorem insert_5 (he : EnvF B w p a s es rs) (hf : FrameP w g o pre post f) (hB : B ≤ g) (hin : CfgIn a.c) (hl : f.ln = 5) :
    Calls Tryz.prog 88 #[.pointer (some ⟨p, 0, none⟩), .pointer (some ⟨g, o, none⟩)] w (Line B p g o pre post a .none (s.go 2 (rSlot a.c f.fi) (fun _ => f.fw)) es rs { f with ln := 6 } w) := by
  have h0 := LSt.start he hf hB
  have H0 := Lib.hid h0
  have hng : g ≠ w.heap.size := by have := h0.lf; omega
  have hng1 := hng.symm
  have hgp : g ≠ p := (h0.f.ne h0.e.m).1
  clear he hf hB
  have c1 : (w.alloc (.cells (rcells' .none) 140)).cell? ⟨g, o + 1, none⟩ = some (.int .i64 f.ln) := H0.out.f.at_ 1 (by omega)
  rw [hl] at c1
  go_enter Tryz.func88, Tryz.ntmps88
  go_upto_region 1 with fail
  generalize (w.alloc (.cells (rcells' .none) 140)) = W0 at *
  clear h0
  go_upto_region 27 with fail
  clear c1
  have H1 := Lib.hid H0.out.drew
  have d9 : W0.drew.cell? ⟨g, o + 9, none⟩ = some (.int .i64 f.fi) := H1.out.f.at_ 9 (by omega)
  have d15 : W0.drew.cell? ⟨g, o + 15, none⟩ = some (.int .u64 f.fw) := H1.out.f.at_ 15 (by omega)
  have de0 : W0.drew.cell? ⟨p, 0, none⟩ = some (.int .i64 a.c.wo) := H1.out.e.m.blk.at_ 0
  have de1 : W0.drew.cell? ⟨p, 1, none⟩ = some (.int .i64 a.c.le) := H1.out.e.m.blk.at_ 1
  have de2 : W0.drew.cell? ⟨p, 2, none⟩ = some (.int .i64 a.c.cl) := H1.out.e.m.blk.at_ 2
  have de3 : W0.drew.cell? ⟨p, 3, none⟩ = some (.int .i64 a.c.ta) := H1.out.e.m.blk.at_ 3
  have de4 : W0.drew.cell? ⟨p, 4, none⟩ = some (.int .i64 a.c.de) := H1.out.e.m.blk.at_ 4
  have de5 : W0.drew.cell? ⟨p, 5, none⟩ = some (.int .i64 a.c.he) := H1.out.e.m.blk.at_ 5
  have de6 : W0.drew.cell? ⟨p, 6, none⟩ = some (.int .i64 a.c.ba) := H1.out.e.m.blk.at_ 6
  have de7 : W0.drew.cell? ⟨p, 7, none⟩ = some (.int .i64 a.c.ag) := H1.out.e.m.blk.at_ 7
  have de8 : W0.drew.cell? ⟨p, 8, none⟩ = some (.int .i64 a.c.pa) := H1.out.e.m.blk.at_ 8
  have de9 : W0.drew.cell? ⟨p, 9, none⟩ = some (.slice a.pa a.pn a.pc) := H1.out.e.m.blk.at_ 9
  have de10 : W0.drew.cell? ⟨p, 10, none⟩ = some (.slice a.sa a.sn a.sc) := H1.out.e.m.blk.at_ 10
  go_region_held3 (fun w' => w'.cell? ⟨g, o + 9, none⟩ = some (.int .i64 f.fi) ∧ w'.cell? ⟨g, o + 15, none⟩ = some (.int .u64 f.fw) ∧ w'.cell? ⟨p, 0, none⟩ = some (.int .i64 a.c.wo) ∧ w'.cell? ⟨p, 1, none⟩ = some (.int .i64 a.c.le) ∧ w'.cell? ⟨p, 2, none⟩ = some (.int .i64 a.c.cl) ∧ w'.cell? ⟨p, 3, none⟩ = some (.int .i64 a.c.ta) ∧ w'.cell? ⟨p, 4, none⟩ = some (.int .i64 a.c.de) ∧ w'.cell? ⟨p, 5, none⟩ = some (.int .i64 a.c.he) ∧ w'.cell? ⟨p, 6, none⟩ = some (.int .i64 a.c.ba) ∧ w'.cell? ⟨p, 7, none⟩ = some (.int .i64 a.c.ag) ∧ w'.cell? ⟨p, 8, none⟩ = some (.int .i64 a.c.pa) ∧ w'.cell? ⟨p, 9, none⟩ = some (.slice a.pa a.pn a.pc) ∧ w'.cell? ⟨p, 10, none⟩ = some (.slice a.sa a.sn a.sc)) (go_keep)
    (first
      | (go_at_call 10
         refine (slot_any hin _).mono ?_
         rintro e W2 ⟨rfl, hb⟩
         have H2 := Lib.hid (H1.out.below hb)
         have ah9 : W2.cell? ⟨g, o + 9, none⟩ = some (.int .i64 f.fi) := H2.out.f.at_ 9 (by omega)
         have ah15 : W2.cell? ⟨g, o + 15, none⟩ = some (.int .u64 f.fw) := H2.out.f.at_ 15 (by omega)
         have ahe0 : W2.cell? ⟨p, 0, none⟩ = some (.int .i64 a.c.wo) := H2.out.e.m.blk.at_ 0
         have ahe1 : W2.cell? ⟨p, 1, none⟩ = some (.int .i64 a.c.le) := H2.out.e.m.blk.at_ 1
         have ahe2 : W2.cell? ⟨p, 2, none⟩ = some (.int .i64 a.c.cl) := H2.out.e.m.blk.at_ 2
         have ahe3 : W2.cell? ⟨p, 3, none⟩ = some (.int .i64 a.c.ta) := H2.out.e.m.blk.at_ 3
         have ahe4 : W2.cell? ⟨p, 4, none⟩ = some (.int .i64 a.c.de) := H2.out.e.m.blk.at_ 4
         have ahe5 : W2.cell? ⟨p, 5, none⟩ = some (.int .i64 a.c.he) := H2.out.e.m.blk.at_ 5
         have ahe6 : W2.cell? ⟨p, 6, none⟩ = some (.int .i64 a.c.ba) := H2.out.e.m.blk.at_ 6
         have ahe7 : W2.cell? ⟨p, 7, none⟩ = some (.int .i64 a.c.ag) := H2.out.e.m.blk.at_ 7
         have ahe8 : W2.cell? ⟨p, 8, none⟩ = some (.int .i64 a.c.pa) := H2.out.e.m.blk.at_ 8
         have ahe9 : W2.cell? ⟨p, 9, none⟩ = some (.slice a.pa a.pn a.pc) := H2.out.e.m.blk.at_ 9
         have ahe10 : W2.cell? ⟨p, 10, none⟩ = some (.slice a.sa a.sn a.sc) := H2.out.e.m.blk.at_ 10
         clear hb)
      | (go_at_call 87
         refine (estore_any H2.out.e.m _ _).mono ?_
         rintro e W3 ⟨rfl, he, hf⟩
         have H3 := Lib.hid (H2.out.acc he hf)
         have bh9 : W3.cell? ⟨g, o + 9, none⟩ = some (.int .i64 f.fi) := H3.out.f.at_ 9 (by omega)
         have bh15 : W3.cell? ⟨g, o + 15, none⟩ = some (.int .u64 f.fw) := H3.out.f.at_ 15 (by omega)
         have bhe0 : W3.cell? ⟨p, 0, none⟩ = some (.int .i64 a.c.wo) := H3.out.e.m.blk.at_ 0
         have bhe1 : W3.cell? ⟨p, 1, none⟩ = some (.int .i64 a.c.le) := H3.out.e.m.blk.at_ 1
         have bhe2 : W3.cell? ⟨p, 2, none⟩ = some (.int .i64 a.c.cl) := H3.out.e.m.blk.at_ 2
         have bhe3 : W3.cell? ⟨p, 3, none⟩ = some (.int .i64 a.c.ta) := H3.out.e.m.blk.at_ 3
         have bhe4 : W3.cell? ⟨p, 4, none⟩ = some (.int .i64 a.c.de) := H3.out.e.m.blk.at_ 4
         have bhe5 : W3.cell? ⟨p, 5, none⟩ = some (.int .i64 a.c.he) := H3.out.e.m.blk.at_ 5
         have bhe6 : W3.cell? ⟨p, 6, none⟩ = some (.int .i64 a.c.ba) := H3.out.e.m.blk.at_ 6
         have bhe7 : W3.cell? ⟨p, 7, none⟩ = some (.int .i64 a.c.ag) := H3.out.e.m.blk.at_ 7
         have bhe8 : W3.cell? ⟨p, 8, none⟩ = some (.int .i64 a.c.pa) := H3.out.e.m.blk.at_ 8
         have bhe9 : W3.cell? ⟨p, 9, none⟩ = some (.slice a.pa a.pn a.pc) := H3.out.e.m.blk.at_ 9
         have bhe10 : W3.cell? ⟨p, 10, none⟩ = some (.slice a.sa a.sn a.sc) := H3.out.e.m.blk.at_ 10
         clear he hf))
  clear d9 d15 de0 de1 de2 de3 de4 de5 de6 de7 de8 de9 de10 ah9 ah15 ahe0 ahe1 ahe2 ahe3 ahe4 ahe5 ahe6 ahe7 ahe8 ahe9 ahe10 bh9 bh15 bhe0 bhe1 bhe2 bhe3 bhe4 bhe5 bhe6 bhe7 bhe8 bhe9 bhe10 H0 H1 H2
  have c1 : W3.cell? ⟨g, o + 1, none⟩ = some (.int .i64 f.ln) := H3.out.f.at_ 1 (by omega)
  have k1 := H3.out.f.free (o + 1)
  have r0 := H3.out.r.at_ 0
  have q0 := H3.out.r.free 0
  have r1 := H3.out.r.at_ 1
  have q1 := H3.out.r.free 1
  have r2 := H3.out.r.at_ 2
  have q2 := H3.out.r.free 2
  rw [hl] at c1
  go_wp2
  have H4 := Lib.hid (H3.out.set 1 (by omega) (.int .i64 (6)) { f with ln := 6 } rfl)
  clear c1 k1 r0 q0 r1 q1 r2 q2
  refine bodyPost_ret (results_cell_row (P := Tryz.prog) Tryz.results88 _ _ w.heap.size 140 _ (0, 0) _ rfl (H4.out.res .none) Tryz.underlying140 rfl (by kernel_rfl)) rfl ?_
  exact H4.out.done .none
set_option maxRecDepth 100000 in
set_option maxHeartbeats 2000000 in
theorem insert_6 (he : EnvF B w p a s es rs) (hf : FrameP w g o pre post f) (hB : B ≤ g) (h1 : (f.ln == 1) = false) (h2 : (f.ln == 2) = false) (h3 : (f.ln == 3) = false) (h4 : (f.ln == 4) = false) (h5 : (f.ln == 5) = false) :
    Calls Tryz.prog 88 #[.pointer (some ⟨p, 0, none⟩), .pointer (some ⟨g, o, none⟩)] w (Line B p g o pre post a ⟨true, 0, 0⟩ (s.go 2 2 (fun _ => IntKind.u64.wrap (wrap64 (f.fn + 1)))) es rs f w) := by
  have h0 := LSt.start he hf hB
  have H0 := Lib.hid h0
  have hng : g ≠ w.heap.size := by have := h0.lf; omega
  have hng1 := hng.symm
  have hgp : g ≠ p := (h0.f.ne h0.e.m).1
  clear he hf hB
  have c1 : (w.alloc (.cells (rcells' .none) 140)).cell? ⟨g, o + 1, none⟩ = some (.int .i64 f.ln) := H0.out.f.at_ 1 (by omega)
  have c11 : (w.alloc (.cells (rcells' .none) 140)).cell? ⟨g, o + 11, none⟩ = some (.int .i64 f.fn) := H0.out.f.at_ 11 (by omega)
  go_enter Tryz.func88, Tryz.ntmps88
  go_upto_region 1 with fail
  generalize (w.alloc (.cells (rcells' .none) 140)) = W0 at *
  clear h0
  go_wp2_with fail
  (with_reducible refine (estore_any H0.out.e.m _ _).mono ?_)
  rintro e W1 ⟨rfl, he, hf⟩
  have H1 := Lib.hid (H0.out.acc he hf)
  clear c1 c11
  clear he hf H0
  go_wp2_with fail
  (with_reducible refine (end_any _ _ _).mono ?_)
  rintro e W2 ⟨rfl, hb⟩
  have H2 := Lib.hid (H1.out.below hb)
  clear hb H1
  have r0 := H2.out.r.at_ 0
  have q0 := H2.out.r.free 0
  have r1 := H2.out.r.at_ 1
  have q1 := H2.out.r.free 1
  have r2 := H2.out.r.at_ 2
  have q2 := H2.out.r.free 2
  go_wp2
  refine bodyPost_ret (results_cell_row (P := Tryz.prog) Tryz.results88 _ _ w.heap.size 140 _ (0, 0) _ rfl (H2.out.res ⟨true, 0, 0⟩) Tryz.underlying140 rfl (by kernel_rfl)) rfl ?_
  exact H2.out.done ⟨true, 0, 0⟩
theorem insert_any (hin : CfgIn a.c) (he : EnvF B w p a s es rs) (hf : FrameP w g o pre post f) (hB : B ≤ g) :
    Calls Tryz.prog 88 #[.pointer (some ⟨p, 0, none⟩), .pointer (some ⟨g, o, none⟩)] w (Line B p g o pre post a (insertS a.c s f).2.2 (insertS a.c s f).1 es rs (insertS a.c s f).2.1 w) := by
  unfold insertS
  by_cases h1 : f.ln = 1
  · simp only [if_pos h1]
    by_cases hc : a.c.he ≤ wrap64 (s.old 2)
    · simp only [if_pos hc]
      exact insert_1f he hf hB h1 hc
    · simp only [if_neg hc]
      exact insert_1 he hf hB h1 (by omega)
  by_cases h2 : f.ln = 2
  · simp only [if_neg h1, if_pos h2]
    by_cases hk : Keyed f.fa (IntKind.i64.wrap (s.old 3)) f.fb
    · simp only [if_pos hk]
      by_cases hn : f.fn ≤ 0
      · simp only [if_pos hn]
        exact insert_2a he hf hB h2 hk hn
      · simp only [if_neg hn]
        exact insert_2b he hf hB h2 hk (by omega)
    · simp only [if_neg hk]
      exact insert_2n he hf hB h2 hk
  by_cases h3 : f.ln = 3
  · simp only [if_neg h1, if_neg h2, if_pos h3]
    by_cases hx : s.old (rSlot a.c (parD f.fi)) ≤ f.fw
    · simp only [if_pos hx]
      exact insert_3a he hf hB hin h3 hx
    · simp only [if_neg hx]
      exact insert_3b he hf hB hin h3 (by omega)
  by_cases h4 : f.ln = 4
  · simp only [if_neg h1, if_neg h2, if_neg h3, if_pos h4]
    by_cases hx : parI f.fi ≤ 0
    · simp only [if_pos hx]
      exact insert_4a he hf hB hin h4 hx
    · simp only [if_neg hx]
      exact insert_4b he hf hB hin h4 (by omega)
  by_cases h5 : f.ln = 5
  · simp only [if_neg h1, if_neg h2, if_neg h3, if_neg h4, if_pos h5]
    exact insert_5 he hf hB hin h5
  simp only [if_neg h1, if_neg h2, if_neg h3, if_neg h4, if_neg h5]
  exact insert_6 he hf hB (by simpa using h1) (by simpa using h2) (by simpa using h3) (by simpa using h4) (by simpa using h5)
end
end Go.Proofs.YtanbjdlaolgepaaGreat
