/-
  The reference's pop, line by line. (Written by wip/gen_pop.py.)
-/
import Derived.Test.YtheimjcgpbmecaaGreatPush
namespace Go.Proofs.YtheimjcgpbmecaaGreat
open Go Go.RowKit
set_option linter.unusedSimpArgs false


section
variable {B p g o : Nat} {w : World} {pre post : List Value} {a : EnvA} {s : St} {es : List Ev} {rs : List Rec} {f : Fra}

set_option maxRecDepth 100000 in
set_option maxHeartbeats 2000000 in
theorem pop_1 (he : EnvF B w p a s es rs) (hf : FrameP w g o pre post f) (hB : B ≤ g) (hl : f.ln = 1) :
    Calls Tryz.prog 98 #[.pointer (some ⟨p, 0, none⟩), .pointer (some ⟨g, o, none⟩)] w (Line B p g o pre post a .none (s.go 1 f.qb id) es rs { f with fu := s.old f.qb, ln := 2 } w) := by
  have h0 := LSt.start he hf hB
  have H0 := Lib.hid h0
  have hng : g ≠ w.heap.size := by have := h0.lf; omega
  have hng1 := hng.symm
  have hgp : g ≠ p := (h0.f.ne h0.e.m).1
  clear he hf hB
  have c1 : (w.alloc (.cells (rcells' .none) 184)).cell? ⟨g, o + 1, none⟩ = some (.int .i64 f.ln) := H0.out.f.at_ 1 (by omega)
  have c3 : (w.alloc (.cells (rcells' .none) 184)).cell? ⟨g, o + 3, none⟩ = some (.int .i64 f.qb) := H0.out.f.at_ 3 (by omega)
  rw [hl] at c1
  go_enter Tryz.func98, Tryz.ntmps98
  go_upto_region 1 with fail
  generalize (w.alloc (.cells (rcells' .none) 184)) = W0 at *
  clear h0
  go_wp2_with fail
  (with_reducible refine (eload_any H0.out.e.m _).mono ?_)
  rintro e W1 ⟨rfl, he, hf⟩
  have H1 := Lib.hid (H0.out.acc he hf)
  clear c1 c3
  clear he hf H0
  have c1 : W1.cell? ⟨g, o + 1, none⟩ = some (.int .i64 f.ln) := H1.out.f.at_ 1 (by omega)
  have c13 : W1.cell? ⟨g, o + 13, none⟩ = some (.int .u64 f.fu) := H1.out.f.at_ 13 (by omega)
  have k13 := H1.out.f.free (o + 13)
  have k1 := H1.out.f.free (o + 1)
  have r0 := H1.out.r.at_ 0
  have q0 := H1.out.r.free 0
  have r1 := H1.out.r.at_ 1
  have q1 := H1.out.r.free 1
  have r2 := H1.out.r.at_ 2
  have q2 := H1.out.r.free 2
  rw [hl] at c1
  go_wp2
  have H2 := Lib.hid ((H1.out.set 13 (by omega) (.int .u64 (s.old f.qb)) { f with fu := s.old f.qb } rfl).set 1 (by omega) (.int .i64 (2)) { f with fu := s.old f.qb, ln := 2 } rfl)
  clear c1 c13 k13 k1 r0 q0 r1 q1 r2 q2
  refine bodyPost_ret (results_cell_row (P := Tryz.prog) Tryz.results98 _ _ w.heap.size 184 _ (0, 0) _ rfl (H2.out.res .none) Tryz.underlying184 rfl (by kernel_rfl)) rfl ?_
  exact H2.out.done .none
set_option maxRecDepth 100000 in
set_option maxHeartbeats 2000000 in
theorem pop_2e (he : EnvF B w p a s es rs) (hf : FrameP w g o pre post f) (hB : B ≤ g) (hl : f.ln = 2) (hc : sizeI f.fu (s.old f.qt) ≤ 0) :
    Calls Tryz.prog 98 #[.pointer (some ⟨p, 0, none⟩), .pointer (some ⟨g, o, none⟩)] w (Line B p g o pre post a ⟨true, 2, 0⟩ (s.go 1 f.qt id) es rs { f with fv := s.old f.qt } w) := by
  have h0 := LSt.start he hf hB
  have H0 := Lib.hid h0
  have hng : g ≠ w.heap.size := by have := h0.lf; omega
  have hng1 := hng.symm
  have hgp : g ≠ p := (h0.f.ne h0.e.m).1
  clear he hf hB
  have c1 : (w.alloc (.cells (rcells' .none) 184)).cell? ⟨g, o + 1, none⟩ = some (.int .i64 f.ln) := H0.out.f.at_ 1 (by omega)
  have c2 : (w.alloc (.cells (rcells' .none) 184)).cell? ⟨g, o + 2, none⟩ = some (.int .i64 f.qt) := H0.out.f.at_ 2 (by omega)
  rw [hl] at c1
  go_enter Tryz.func98, Tryz.ntmps98
  go_upto_region 1 with fail
  generalize (w.alloc (.cells (rcells' .none) 184)) = W0 at *
  clear h0
  go_wp2_with fail
  (with_reducible refine (eload_any H0.out.e.m _).mono ?_)
  rintro e W1 ⟨rfl, he, hf⟩
  have H1 := Lib.hid (H0.out.acc he hf)
  clear c1 c2
  clear he hf H0
  have c14 : W1.cell? ⟨g, o + 14, none⟩ = some (.int .u64 f.fv) := H1.out.f.at_ 14 (by omega)
  have k14 := H1.out.f.free (o + 14)
  go_upto_region 9 with fail
  have H2 := Lib.hid (H1.out.set 14 (by omega) (.int .u64 (s.old f.qt)) { f with fv := s.old f.qt } rfl)
  clear c14 k14
  generalize (W1.setCell ⟨g, o + 14, none⟩ (.int .u64 (s.old f.qt))) = W2 at *
  clear H1
  have hq := fun (x y : Int) (u : World) => (size_any x y u).mono (fun e w' (h : e = .returned (.int .i64 (sizeI x y)) ∧ u = w') => (⟨h.1, h.2.symm⟩ : e = .returned (.int .i64 (sizeI x y)) ∧ w' = u))
  have c13 : W2.cell? ⟨g, o + 13, none⟩ = some (.int .u64 f.fu) := H2.out.f.at_ 13 (by omega)
  have c14 : W2.cell? ⟨g, o + 14, none⟩ = some (.int .u64 (s.old f.qt)) := H2.out.f.at_ 14 (by omega)
  go_quiet ((go_at_call 134; exact Calls.quiet_of_same (hq _ _ _)))
  clear hq
  have H3 := Lib.hid (H2.out.drewN nq)
  clear c13 c14
  generalize W2.drewN nq = W3 at *
  clear H2
  go_wp2_with fail
  (with_reducible refine (end_any _ _ _).mono ?_)
  rintro e W4 ⟨rfl, hb⟩
  have H4 := Lib.hid (H3.out.below hb)
  clear hb H3
  have r0 := H4.out.r.at_ 0
  have q0 := H4.out.r.free 0
  have r1 := H4.out.r.at_ 1
  have q1 := H4.out.r.free 1
  have r2 := H4.out.r.at_ 2
  have q2 := H4.out.r.free 2
  go_wp2
  refine bodyPost_ret (results_cell_row (P := Tryz.prog) Tryz.results98 _ _ w.heap.size 184 _ (0, 0) _ rfl (H4.out.res ⟨true, 2, 0⟩) Tryz.underlying184 rfl (by kernel_rfl)) rfl ?_
  exact H4.out.done ⟨true, 2, 0⟩
set_option maxRecDepth 100000 in
set_option maxHeartbeats 2000000 in
theorem pop_2 (he : EnvF B w p a s es rs) (hf : FrameP w g o pre post f) (hB : B ≤ g) (hl : f.ln = 2) (hc : 0 < sizeI f.fu (s.old f.qt)) :
    Calls Tryz.prog 98 #[.pointer (some ⟨p, 0, none⟩), .pointer (some ⟨g, o, none⟩)] w (Line B p g o pre post a .none (s.go 1 f.qt id) es rs { f with fv := s.old f.qt, ln := 3 } w) := by
  have h0 := LSt.start he hf hB
  have H0 := Lib.hid h0
  have hng : g ≠ w.heap.size := by have := h0.lf; omega
  have hng1 := hng.symm
  have hgp : g ≠ p := (h0.f.ne h0.e.m).1
  clear he hf hB
  have c1 : (w.alloc (.cells (rcells' .none) 184)).cell? ⟨g, o + 1, none⟩ = some (.int .i64 f.ln) := H0.out.f.at_ 1 (by omega)
  have c2 : (w.alloc (.cells (rcells' .none) 184)).cell? ⟨g, o + 2, none⟩ = some (.int .i64 f.qt) := H0.out.f.at_ 2 (by omega)
  rw [hl] at c1
  go_enter Tryz.func98, Tryz.ntmps98
  go_upto_region 1 with fail
  generalize (w.alloc (.cells (rcells' .none) 184)) = W0 at *
  clear h0
  go_wp2_with fail
  (with_reducible refine (eload_any H0.out.e.m _).mono ?_)
  rintro e W1 ⟨rfl, he, hf⟩
  have H1 := Lib.hid (H0.out.acc he hf)
  clear c1 c2
  clear he hf H0
  have c14 : W1.cell? ⟨g, o + 14, none⟩ = some (.int .u64 f.fv) := H1.out.f.at_ 14 (by omega)
  have k14 := H1.out.f.free (o + 14)
  go_upto_region 9 with fail
  have H2 := Lib.hid (H1.out.set 14 (by omega) (.int .u64 (s.old f.qt)) { f with fv := s.old f.qt } rfl)
  clear c14 k14
  generalize (W1.setCell ⟨g, o + 14, none⟩ (.int .u64 (s.old f.qt))) = W2 at *
  clear H1
  have hq := fun (x y : Int) (u : World) => (size_any x y u).mono (fun e w' (h : e = .returned (.int .i64 (sizeI x y)) ∧ u = w') => (⟨h.1, h.2.symm⟩ : e = .returned (.int .i64 (sizeI x y)) ∧ w' = u))
  have c13 : W2.cell? ⟨g, o + 13, none⟩ = some (.int .u64 f.fu) := H2.out.f.at_ 13 (by omega)
  have c14 : W2.cell? ⟨g, o + 14, none⟩ = some (.int .u64 (s.old f.qt)) := H2.out.f.at_ 14 (by omega)
  go_quiet ((go_at_call 134; exact Calls.quiet_of_same (hq _ _ _)))
  clear hq
  have H3 := Lib.hid (H2.out.drewN nq)
  clear c13 c14
  generalize W2.drewN nq = W3 at *
  clear H2
  have c1 : W3.cell? ⟨g, o + 1, none⟩ = some (.int .i64 f.ln) := H3.out.f.at_ 1 (by omega)
  have k1 := H3.out.f.free (o + 1)
  have r0 := H3.out.r.at_ 0
  have q0 := H3.out.r.free 0
  have r1 := H3.out.r.at_ 1
  have q1 := H3.out.r.free 1
  have r2 := H3.out.r.at_ 2
  have q2 := H3.out.r.free 2
  rw [hl] at c1
  go_wp2
  have H4 := Lib.hid (H3.out.set 1 (by omega) (.int .i64 (3)) { f with fv := s.old f.qt, ln := 3 } rfl)
  clear c1 k1 r0 q0 r1 q1 r2 q2
  refine bodyPost_ret (results_cell_row (P := Tryz.prog) Tryz.results98 _ _ w.heap.size 184 _ (0, 0) _ rfl (H4.out.res .none) Tryz.underlying184 rfl (by kernel_rfl)) rfl ?_
  exact H4.out.done .none
set_option maxRecDepth 100000 in
set_option maxHeartbeats 2000000 in
theorem pop_3 (he : EnvF B w p a s es rs) (hf : FrameP w g o pre post f) (hB : B ≤ g) (hl : f.ln = 3) :
    Calls Tryz.prog 98 #[.pointer (some ⟨p, 0, none⟩), .pointer (some ⟨g, o, none⟩)] w (Line B p g o pre post a .none (s.go 2 f.qb (fun _ => sub1 f.fu)) es rs { f with ln := 4 } w) := by
  have h0 := LSt.start he hf hB
  have H0 := Lib.hid h0
  have hng : g ≠ w.heap.size := by have := h0.lf; omega
  have hng1 := hng.symm
  have hgp : g ≠ p := (h0.f.ne h0.e.m).1
  clear he hf hB
  have c1 : (w.alloc (.cells (rcells' .none) 184)).cell? ⟨g, o + 1, none⟩ = some (.int .i64 f.ln) := H0.out.f.at_ 1 (by omega)
  rw [hl] at c1
  go_enter Tryz.func98, Tryz.ntmps98
  go_upto_region 1 with fail
  generalize (w.alloc (.cells (rcells' .none) 184)) = W0 at *
  clear h0
  go_upto_region 12 with fail
  clear c1
  have H1 := Lib.hid H0.out.drew
  have d3 : W0.drew.cell? ⟨g, o + 3, none⟩ = some (.int .i64 f.qb) := H1.out.f.at_ 3 (by omega)
  have d13 : W0.drew.cell? ⟨g, o + 13, none⟩ = some (.int .u64 f.fu) := H1.out.f.at_ 13 (by omega)
  go_region_held3 (fun w' => w'.cell? ⟨g, o + 3, none⟩ = some (.int .i64 f.qb) ∧ w'.cell? ⟨g, o + 13, none⟩ = some (.int .u64 f.fu)) (go_keep)
    ((go_at_call 107
      refine (estore_any H1.out.e.m _ _).mono ?_
      rintro e W2 ⟨rfl, he, hf⟩
      have H2 := Lib.hid (H1.out.acc he hf)
      have ah3 : W2.cell? ⟨g, o + 3, none⟩ = some (.int .i64 f.qb) := H2.out.f.at_ 3 (by omega)
      have ah13 : W2.cell? ⟨g, o + 13, none⟩ = some (.int .u64 f.fu) := H2.out.f.at_ 13 (by omega)
      have s3 : W2.cell? ⟨g, o + 3, none⟩ = some (.int .i64 f.qb) := by rw []; exact ah3
      have s13 : W2.cell? ⟨g, o + 13, none⟩ = some (.int .u64 f.fu) := by rw []; exact ah13
      clear he hf))
  clear d3 d13 ah3 ah13 H0 H1
  have c1 : W2.cell? ⟨g, o + 1, none⟩ = some (.int .i64 f.ln) := H2.out.f.at_ 1 (by omega)
  have k1 := H2.out.f.free (o + 1)
  have r0 := H2.out.r.at_ 0
  have q0 := H2.out.r.free 0
  have r1 := H2.out.r.at_ 1
  have q1 := H2.out.r.free 1
  have r2 := H2.out.r.at_ 2
  have q2 := H2.out.r.free 2
  rw [hl] at c1
  go_wp2
  have H3 := Lib.hid (H2.out.set 1 (by omega) (.int .i64 (4)) { f with ln := 4 } rfl)
  clear c1 k1 r0 q0 r1 q1 r2 q2
  refine bodyPost_ret (results_cell_row (P := Tryz.prog) Tryz.results98 _ _ w.heap.size 184 _ (0, 0) _ rfl (H3.out.res .none) Tryz.underlying184 rfl (by kernel_rfl)) rfl ?_
  exact H3.out.done .none
set_option maxRecDepth 100000 in
set_option maxHeartbeats 2000000 in
theorem pop_4a (he : EnvF B w p a s es rs) (hf : FrameP w g o pre post f) (hB : B ≤ g) (hl : f.ln = 4) (hc : sizeI (sub1 f.fu) (s.old f.qt) = 0) :
    Calls Tryz.prog 98 #[.pointer (some ⟨p, 0, none⟩), .pointer (some ⟨g, o, none⟩)] w (Line B p g o pre post a .none (s.go 1 f.qt id) es rs { f with fv := s.old f.qt, ln := 6 } w) := by
  have h0 := LSt.start he hf hB
  have H0 := Lib.hid h0
  have hng : g ≠ w.heap.size := by have := h0.lf; omega
  have hng1 := hng.symm
  have hgp : g ≠ p := (h0.f.ne h0.e.m).1
  clear he hf hB
  obtain ⟨z, hz⟩ : ∃ z, sizeI (sub1 f.fu) (s.old f.qt) = z := ⟨_, rfl⟩
  rw [hz] at hc
  have HZ := Lib.hid hz
  clear hz
  subst hc
  have c1 : (w.alloc (.cells (rcells' .none) 184)).cell? ⟨g, o + 1, none⟩ = some (.int .i64 f.ln) := H0.out.f.at_ 1 (by omega)
  have c2 : (w.alloc (.cells (rcells' .none) 184)).cell? ⟨g, o + 2, none⟩ = some (.int .i64 f.qt) := H0.out.f.at_ 2 (by omega)
  rw [hl] at c1
  go_enter Tryz.func98, Tryz.ntmps98
  go_upto_region 1 with fail
  generalize (w.alloc (.cells (rcells' .none) 184)) = W0 at *
  clear h0
  go_wp2_with fail
  (with_reducible refine (eload_any H0.out.e.m _).mono ?_)
  rintro e W1 ⟨rfl, he, hf⟩
  have H1 := Lib.hid (H0.out.acc he hf)
  clear c1 c2
  clear he hf H0
  have c14 : W1.cell? ⟨g, o + 14, none⟩ = some (.int .u64 f.fv) := H1.out.f.at_ 14 (by omega)
  have k14 := H1.out.f.free (o + 14)
  go_upto_region 15 with fail
  have H2 := Lib.hid (H1.out.set 14 (by omega) (.int .u64 (s.old f.qt)) { f with fv := s.old f.qt } rfl)
  clear c14 k14
  generalize (W1.setCell ⟨g, o + 14, none⟩ (.int .u64 (s.old f.qt))) = W2 at *
  clear H1
  have hq := fun (x y : Int) (u : World) => (size_any x y u).mono (fun e w' (h : e = .returned (.int .i64 (sizeI x y)) ∧ u = w') => (⟨h.1, h.2.symm⟩ : e = .returned (.int .i64 (sizeI x y)) ∧ w' = u))
  have c13 : W2.cell? ⟨g, o + 13, none⟩ = some (.int .u64 f.fu) := H2.out.f.at_ 13 (by omega)
  have c14 : W2.cell? ⟨g, o + 14, none⟩ = some (.int .u64 (s.old f.qt)) := H2.out.f.at_ 14 (by omega)
  go_quiet ((go_at_call 134; exact Calls.quiet_of_same (hq _ _ _)))
  clear hq
  have H3 := Lib.hid (H2.out.drewN nq)
  clear c13 c14
  generalize W2.drewN nq = W3 at *
  clear H2
  rw [HZ.out]
  have c1 : W3.cell? ⟨g, o + 1, none⟩ = some (.int .i64 f.ln) := H3.out.f.at_ 1 (by omega)
  have k1 := H3.out.f.free (o + 1)
  have r0 := H3.out.r.at_ 0
  have q0 := H3.out.r.free 0
  have r1 := H3.out.r.at_ 1
  have q1 := H3.out.r.free 1
  have r2 := H3.out.r.at_ 2
  have q2 := H3.out.r.free 2
  rw [hl] at c1
  go_wp2
  have H4 := Lib.hid (H3.out.set 1 (by omega) (.int .i64 (6)) { f with fv := s.old f.qt, ln := 6 } rfl)
  clear c1 k1 r0 q0 r1 q1 r2 q2
  refine bodyPost_ret (results_cell_row (P := Tryz.prog) Tryz.results98 _ _ w.heap.size 184 _ (0, 0) _ rfl (H4.out.res .none) Tryz.underlying184 rfl (by kernel_rfl)) rfl ?_
  exact H4.out.done .none
set_option maxRecDepth 100000 in
set_option maxHeartbeats 2000000 in
theorem pop_4b (he : EnvF B w p a s es rs) (hf : FrameP w g o pre post f) (hB : B ≤ g) (hl : f.ln = 4) (hc : sizeI (sub1 f.fu) (s.old f.qt) < 0) :
    Calls Tryz.prog 98 #[.pointer (some ⟨p, 0, none⟩), .pointer (some ⟨g, o, none⟩)] w (Line B p g o pre post a .none (s.go 1 f.qt id) es rs { f with fv := s.old f.qt, ln := 9 } w) := by
  have h0 := LSt.start he hf hB
  have H0 := Lib.hid h0
  have hng : g ≠ w.heap.size := by have := h0.lf; omega
  have hng1 := hng.symm
  have hgp : g ≠ p := (h0.f.ne h0.e.m).1
  clear he hf hB
  obtain ⟨z, hz⟩ : ∃ z, sizeI (sub1 f.fu) (s.old f.qt) = z := ⟨_, rfl⟩
  rw [hz] at hc
  have HZ := Lib.hid hz
  clear hz
  have hz0 : (z == 0) = false := by simp; omega
  have c1 : (w.alloc (.cells (rcells' .none) 184)).cell? ⟨g, o + 1, none⟩ = some (.int .i64 f.ln) := H0.out.f.at_ 1 (by omega)
  have c2 : (w.alloc (.cells (rcells' .none) 184)).cell? ⟨g, o + 2, none⟩ = some (.int .i64 f.qt) := H0.out.f.at_ 2 (by omega)
  rw [hl] at c1
  go_enter Tryz.func98, Tryz.ntmps98
  go_upto_region 1 with fail
  generalize (w.alloc (.cells (rcells' .none) 184)) = W0 at *
  clear h0
  go_wp2_with fail
  (with_reducible refine (eload_any H0.out.e.m _).mono ?_)
  rintro e W1 ⟨rfl, he, hf⟩
  have H1 := Lib.hid (H0.out.acc he hf)
  clear c1 c2
  clear he hf H0
  have c14 : W1.cell? ⟨g, o + 14, none⟩ = some (.int .u64 f.fv) := H1.out.f.at_ 14 (by omega)
  have k14 := H1.out.f.free (o + 14)
  go_upto_region 15 with fail
  have H2 := Lib.hid (H1.out.set 14 (by omega) (.int .u64 (s.old f.qt)) { f with fv := s.old f.qt } rfl)
  clear c14 k14
  generalize (W1.setCell ⟨g, o + 14, none⟩ (.int .u64 (s.old f.qt))) = W2 at *
  clear H1
  have hq := fun (x y : Int) (u : World) => (size_any x y u).mono (fun e w' (h : e = .returned (.int .i64 (sizeI x y)) ∧ u = w') => (⟨h.1, h.2.symm⟩ : e = .returned (.int .i64 (sizeI x y)) ∧ w' = u))
  have c13 : W2.cell? ⟨g, o + 13, none⟩ = some (.int .u64 f.fu) := H2.out.f.at_ 13 (by omega)
  have c14 : W2.cell? ⟨g, o + 14, none⟩ = some (.int .u64 (s.old f.qt)) := H2.out.f.at_ 14 (by omega)
  go_quiet ((go_at_call 134; exact Calls.quiet_of_same (hq _ _ _)))
  clear hq
  have H3 := Lib.hid (H2.out.drewN nq)
  clear c13 c14
  generalize W2.drewN nq = W3 at *
  clear H2
  rw [HZ.out]
  have c1 : W3.cell? ⟨g, o + 1, none⟩ = some (.int .i64 f.ln) := H3.out.f.at_ 1 (by omega)
  have k1 := H3.out.f.free (o + 1)
  have r0 := H3.out.r.at_ 0
  have q0 := H3.out.r.free 0
  have r1 := H3.out.r.at_ 1
  have q1 := H3.out.r.free 1
  have r2 := H3.out.r.at_ 2
  have q2 := H3.out.r.free 2
  rw [hl] at c1
  go_wp2
  have H4 := Lib.hid (H3.out.set 1 (by omega) (.int .i64 (9)) { f with fv := s.old f.qt, ln := 9 } rfl)
  clear c1 k1 r0 q0 r1 q1 r2 q2
  refine bodyPost_ret (results_cell_row (P := Tryz.prog) Tryz.results98 _ _ w.heap.size 184 _ (0, 0) _ rfl (H4.out.res .none) Tryz.underlying184 rfl (by kernel_rfl)) rfl ?_
  exact H4.out.done .none
set_option maxRecDepth 100000 in
set_option maxHeartbeats 2000000 in
theorem pop_4c (he : EnvF B w p a s es rs) (hf : FrameP w g o pre post f) (hB : B ≤ g) (hl : f.ln = 4) (hc : 0 < sizeI (sub1 f.fu) (s.old f.qt)) :
    Calls Tryz.prog 98 #[.pointer (some ⟨p, 0, none⟩), .pointer (some ⟨g, o, none⟩)] w (Line B p g o pre post a .none (s.go 1 f.qt id) es rs { f with fv := s.old f.qt, ln := 5 } w) := by
  have h0 := LSt.start he hf hB
  have H0 := Lib.hid h0
  have hng : g ≠ w.heap.size := by have := h0.lf; omega
  have hng1 := hng.symm
  have hgp : g ≠ p := (h0.f.ne h0.e.m).1
  clear he hf hB
  obtain ⟨z, hz⟩ : ∃ z, sizeI (sub1 f.fu) (s.old f.qt) = z := ⟨_, rfl⟩
  rw [hz] at hc
  have HZ := Lib.hid hz
  clear hz
  have hz0 : (z == 0) = false := by simp; omega
  have hz1 : ¬ z < 0 := by omega
  have c1 : (w.alloc (.cells (rcells' .none) 184)).cell? ⟨g, o + 1, none⟩ = some (.int .i64 f.ln) := H0.out.f.at_ 1 (by omega)
  have c2 : (w.alloc (.cells (rcells' .none) 184)).cell? ⟨g, o + 2, none⟩ = some (.int .i64 f.qt) := H0.out.f.at_ 2 (by omega)
  rw [hl] at c1
  go_enter Tryz.func98, Tryz.ntmps98
  go_upto_region 1 with fail
  generalize (w.alloc (.cells (rcells' .none) 184)) = W0 at *
  clear h0
  go_wp2_with fail
  (with_reducible refine (eload_any H0.out.e.m _).mono ?_)
  rintro e W1 ⟨rfl, he, hf⟩
  have H1 := Lib.hid (H0.out.acc he hf)
  clear c1 c2
  clear he hf H0
  have c14 : W1.cell? ⟨g, o + 14, none⟩ = some (.int .u64 f.fv) := H1.out.f.at_ 14 (by omega)
  have k14 := H1.out.f.free (o + 14)
  go_upto_region 15 with fail
  have H2 := Lib.hid (H1.out.set 14 (by omega) (.int .u64 (s.old f.qt)) { f with fv := s.old f.qt } rfl)
  clear c14 k14
  generalize (W1.setCell ⟨g, o + 14, none⟩ (.int .u64 (s.old f.qt))) = W2 at *
  clear H1
  have hq := fun (x y : Int) (u : World) => (size_any x y u).mono (fun e w' (h : e = .returned (.int .i64 (sizeI x y)) ∧ u = w') => (⟨h.1, h.2.symm⟩ : e = .returned (.int .i64 (sizeI x y)) ∧ w' = u))
  have c13 : W2.cell? ⟨g, o + 13, none⟩ = some (.int .u64 f.fu) := H2.out.f.at_ 13 (by omega)
  have c14 : W2.cell? ⟨g, o + 14, none⟩ = some (.int .u64 (s.old f.qt)) := H2.out.f.at_ 14 (by omega)
  go_quiet ((go_at_call 134; exact Calls.quiet_of_same (hq _ _ _)))
  clear hq
  have H3 := Lib.hid (H2.out.drewN nq)
  clear c13 c14
  generalize W2.drewN nq = W3 at *
  clear H2
  rw [HZ.out]
  have c1 : W3.cell? ⟨g, o + 1, none⟩ = some (.int .i64 f.ln) := H3.out.f.at_ 1 (by omega)
  have k1 := H3.out.f.free (o + 1)
  have r0 := H3.out.r.at_ 0
  have q0 := H3.out.r.free 0
  have r1 := H3.out.r.at_ 1
  have q1 := H3.out.r.free 1
  have r2 := H3.out.r.at_ 2
  have q2 := H3.out.r.free 2
  rw [hl] at c1
  go_wp2
  have H4 := Lib.hid (H3.out.set 1 (by omega) (.int .i64 (5)) { f with fv := s.old f.qt, ln := 5 } rfl)
  clear c1 k1 r0 q0 r1 q1 r2 q2
  refine bodyPost_ret (results_cell_row (P := Tryz.prog) Tryz.results98 _ _ w.heap.size 184 _ (0, 0) _ rfl (H4.out.res .none) Tryz.underlying184 rfl (by kernel_rfl)) rfl ?_
  exact H4.out.done .none
set_option maxRecDepth 100000 in
set_option maxHeartbeats 2000000 in
theorem pop_5 (he : EnvF B w p a s es rs) (hf : FrameP w g o pre post f) (hB : B ≤ g) (hl : f.ln = 5) (hqc : f.qc ≤ 9223372036854775807) :
    Calls Tryz.prog 98 #[.pointer (some ⟨p, 0, none⟩), .pointer (some ⟨g, o, none⟩)] w (Line B p g o pre post a ⟨true, 1, IntKind.i64.wrap (s.old (ringI f.qr f.qc (sub1 f.fu)))⟩ (s.go 1 (ringI f.qr f.qc (sub1 f.fu)) id) es rs f w) := by
  have h0 := LSt.start he hf hB
  have H0 := Lib.hid h0
  have hng : g ≠ w.heap.size := by have := h0.lf; omega
  have hng1 := hng.symm
  have hgp : g ≠ p := (h0.f.ne h0.e.m).1
  clear he hf hB
  have c1 : (w.alloc (.cells (rcells' .none) 184)).cell? ⟨g, o + 1, none⟩ = some (.int .i64 f.ln) := H0.out.f.at_ 1 (by omega)
  rw [hl] at c1
  go_enter Tryz.func98, Tryz.ntmps98
  go_upto_region 1 with fail
  generalize (w.alloc (.cells (rcells' .none) 184)) = W0 at *
  clear h0
  go_upto_region 22 with fail
  clear c1
  have H1 := Lib.hid H0.out.drew
  have d2 : W0.drew.cell? ⟨g, o + 2, none⟩ = some (.int .i64 f.qt) := H1.out.f.at_ 2 (by omega)
  have d3 : W0.drew.cell? ⟨g, o + 3, none⟩ = some (.int .i64 f.qb) := H1.out.f.at_ 3 (by omega)
  have d4 : W0.drew.cell? ⟨g, o + 4, none⟩ = some (.int .i64 f.qr) := H1.out.f.at_ 4 (by omega)
  have d5 : W0.drew.cell? ⟨g, o + 5, none⟩ = some (.int .i64 f.qc) := H1.out.f.at_ 5 (by omega)
  have d13 : W0.drew.cell? ⟨g, o + 13, none⟩ = some (.int .u64 f.fu) := H1.out.f.at_ 13 (by omega)
  go_region_held3 (fun w' => w'.cell? ⟨g, o + 2, none⟩ = some (.int .i64 f.qt) ∧ w'.cell? ⟨g, o + 3, none⟩ = some (.int .i64 f.qb) ∧ w'.cell? ⟨g, o + 4, none⟩ = some (.int .i64 f.qr) ∧ w'.cell? ⟨g, o + 5, none⟩ = some (.int .i64 f.qc) ∧ w'.cell? ⟨g, o + 13, none⟩ = some (.int .u64 f.fu)) (go_keep)
    (first
      | (go_at_call 135
         refine (ring_any _ _ _ _ _ (u64_nn _) hqc _).mono ?_
         rintro e W2 ⟨rfl, hb⟩
         have H2 := Lib.hid (H1.out.below hb)
         have ah2 : W2.cell? ⟨g, o + 2, none⟩ = some (.int .i64 f.qt) := H2.out.f.at_ 2 (by omega)
         have ah3 : W2.cell? ⟨g, o + 3, none⟩ = some (.int .i64 f.qb) := H2.out.f.at_ 3 (by omega)
         have ah4 : W2.cell? ⟨g, o + 4, none⟩ = some (.int .i64 f.qr) := H2.out.f.at_ 4 (by omega)
         have ah5 : W2.cell? ⟨g, o + 5, none⟩ = some (.int .i64 f.qc) := H2.out.f.at_ 5 (by omega)
         have ah13 : W2.cell? ⟨g, o + 13, none⟩ = some (.int .u64 f.fu) := H2.out.f.at_ 13 (by omega)
         clear hb)
      | (go_at_call 104
         refine (eload_any H2.out.e.m _).mono ?_
         rintro e W3 ⟨rfl, he, hf⟩
         have H3 := Lib.hid (H2.out.acc he hf)
         have bh2 : W3.cell? ⟨g, o + 2, none⟩ = some (.int .i64 f.qt) := H3.out.f.at_ 2 (by omega)
         have bh3 : W3.cell? ⟨g, o + 3, none⟩ = some (.int .i64 f.qb) := H3.out.f.at_ 3 (by omega)
         have bh4 : W3.cell? ⟨g, o + 4, none⟩ = some (.int .i64 f.qr) := H3.out.f.at_ 4 (by omega)
         have bh5 : W3.cell? ⟨g, o + 5, none⟩ = some (.int .i64 f.qc) := H3.out.f.at_ 5 (by omega)
         have bh13 : W3.cell? ⟨g, o + 13, none⟩ = some (.int .u64 f.fu) := H3.out.f.at_ 13 (by omega)
         clear he hf)
      | (go_at_call 102
         refine (end_any _ _ _).mono ?_
         rintro e W4 ⟨rfl, hb⟩
         have H4 := Lib.hid (H3.out.below hb)
         have xh2 : W4.cell? ⟨g, o + 2, none⟩ = some (.int .i64 f.qt) := H4.out.f.at_ 2 (by omega)
         have xh3 : W4.cell? ⟨g, o + 3, none⟩ = some (.int .i64 f.qb) := H4.out.f.at_ 3 (by omega)
         have xh4 : W4.cell? ⟨g, o + 4, none⟩ = some (.int .i64 f.qr) := H4.out.f.at_ 4 (by omega)
         have xh5 : W4.cell? ⟨g, o + 5, none⟩ = some (.int .i64 f.qc) := H4.out.f.at_ 5 (by omega)
         have xh13 : W4.cell? ⟨g, o + 13, none⟩ = some (.int .u64 f.fu) := H4.out.f.at_ 13 (by omega)
         have r0 := H4.out.r.at_ 0
         have r1 := H4.out.r.at_ 1
         have r2 := H4.out.r.at_ 2
         have q0 := H4.out.r.free 0
         have q1 := H4.out.r.free 1
         have q2 := H4.out.r.free 2
         have s2 : W4.cell? ⟨g, o + 2, none⟩ = some (.int .i64 f.qt) := by rw []; exact xh2
         have s3 : W4.cell? ⟨g, o + 3, none⟩ = some (.int .i64 f.qb) := by rw []; exact xh3
         have s4 : W4.cell? ⟨g, o + 4, none⟩ = some (.int .i64 f.qr) := by rw []; exact xh4
         have s5 : W4.cell? ⟨g, o + 5, none⟩ = some (.int .i64 f.qc) := by rw []; exact xh5
         have s13 : W4.cell? ⟨g, o + 13, none⟩ = some (.int .u64 f.fu) := by rw []; exact xh13
         clear hb))
  clear d2 d3 d4 d5 d13 ah2 ah3 ah4 ah5 ah13 bh2 bh3 bh4 bh5 bh13 xh2 xh3 xh4 xh5 xh13 r0 r1 r2 q0 q1 q2 H0 H1 H2 H3
  go_wp2
  refine bodyPost_ret (results_cell_row (P := Tryz.prog) Tryz.results98 _ _ w.heap.size 184 _ (0, 0) _ rfl (H4.out.res ⟨true, 1, IntKind.i64.wrap (s.old (ringI f.qr f.qc (sub1 f.fu)))⟩) Tryz.underlying184 rfl (by kernel_rfl)) rfl ?_
  exact H4.out.done ⟨true, 1, IntKind.i64.wrap (s.old (ringI f.qr f.qc (sub1 f.fu)))⟩
set_option maxRecDepth 100000 in
set_option maxHeartbeats 2000000 in
theorem pop_8 (he : EnvF B w p a s es rs) (hf : FrameP w g o pre post f) (hB : B ≤ g) (hl : f.ln = 8) (hqc : f.qc ≤ 9223372036854775807) :
    Calls Tryz.prog 98 #[.pointer (some ⟨p, 0, none⟩), .pointer (some ⟨g, o, none⟩)] w (Line B p g o pre post a ⟨true, 1, IntKind.i64.wrap (s.old (ringI f.qr f.qc (sub1 f.fu)))⟩ (s.go 1 (ringI f.qr f.qc (sub1 f.fu)) id) es rs f w) := by
  have h0 := LSt.start he hf hB
  have H0 := Lib.hid h0
  have hng : g ≠ w.heap.size := by have := h0.lf; omega
  have hng1 := hng.symm
  have hgp : g ≠ p := (h0.f.ne h0.e.m).1
  clear he hf hB
  have c1 : (w.alloc (.cells (rcells' .none) 184)).cell? ⟨g, o + 1, none⟩ = some (.int .i64 f.ln) := H0.out.f.at_ 1 (by omega)
  rw [hl] at c1
  go_enter Tryz.func98, Tryz.ntmps98
  go_upto_region 1 with fail
  generalize (w.alloc (.cells (rcells' .none) 184)) = W0 at *
  clear h0
  go_upto_region 22 with fail
  clear c1
  have H1 := Lib.hid H0.out.drew
  have d2 : W0.drew.cell? ⟨g, o + 2, none⟩ = some (.int .i64 f.qt) := H1.out.f.at_ 2 (by omega)
  have d3 : W0.drew.cell? ⟨g, o + 3, none⟩ = some (.int .i64 f.qb) := H1.out.f.at_ 3 (by omega)
  have d4 : W0.drew.cell? ⟨g, o + 4, none⟩ = some (.int .i64 f.qr) := H1.out.f.at_ 4 (by omega)
  have d5 : W0.drew.cell? ⟨g, o + 5, none⟩ = some (.int .i64 f.qc) := H1.out.f.at_ 5 (by omega)
  have d13 : W0.drew.cell? ⟨g, o + 13, none⟩ = some (.int .u64 f.fu) := H1.out.f.at_ 13 (by omega)
  go_region_held3 (fun w' => w'.cell? ⟨g, o + 2, none⟩ = some (.int .i64 f.qt) ∧ w'.cell? ⟨g, o + 3, none⟩ = some (.int .i64 f.qb) ∧ w'.cell? ⟨g, o + 4, none⟩ = some (.int .i64 f.qr) ∧ w'.cell? ⟨g, o + 5, none⟩ = some (.int .i64 f.qc) ∧ w'.cell? ⟨g, o + 13, none⟩ = some (.int .u64 f.fu)) (go_keep)
    (first
      | (go_at_call 135
         refine (ring_any _ _ _ _ _ (u64_nn _) hqc _).mono ?_
         rintro e W2 ⟨rfl, hb⟩
         have H2 := Lib.hid (H1.out.below hb)
         have ah2 : W2.cell? ⟨g, o + 2, none⟩ = some (.int .i64 f.qt) := H2.out.f.at_ 2 (by omega)
         have ah3 : W2.cell? ⟨g, o + 3, none⟩ = some (.int .i64 f.qb) := H2.out.f.at_ 3 (by omega)
         have ah4 : W2.cell? ⟨g, o + 4, none⟩ = some (.int .i64 f.qr) := H2.out.f.at_ 4 (by omega)
         have ah5 : W2.cell? ⟨g, o + 5, none⟩ = some (.int .i64 f.qc) := H2.out.f.at_ 5 (by omega)
         have ah13 : W2.cell? ⟨g, o + 13, none⟩ = some (.int .u64 f.fu) := H2.out.f.at_ 13 (by omega)
         clear hb)
      | (go_at_call 104
         refine (eload_any H2.out.e.m _).mono ?_
         rintro e W3 ⟨rfl, he, hf⟩
         have H3 := Lib.hid (H2.out.acc he hf)
         have bh2 : W3.cell? ⟨g, o + 2, none⟩ = some (.int .i64 f.qt) := H3.out.f.at_ 2 (by omega)
         have bh3 : W3.cell? ⟨g, o + 3, none⟩ = some (.int .i64 f.qb) := H3.out.f.at_ 3 (by omega)
         have bh4 : W3.cell? ⟨g, o + 4, none⟩ = some (.int .i64 f.qr) := H3.out.f.at_ 4 (by omega)
         have bh5 : W3.cell? ⟨g, o + 5, none⟩ = some (.int .i64 f.qc) := H3.out.f.at_ 5 (by omega)
         have bh13 : W3.cell? ⟨g, o + 13, none⟩ = some (.int .u64 f.fu) := H3.out.f.at_ 13 (by omega)
         clear he hf)
      | (go_at_call 102
         refine (end_any _ _ _).mono ?_
         rintro e W4 ⟨rfl, hb⟩
         have H4 := Lib.hid (H3.out.below hb)
         have xh2 : W4.cell? ⟨g, o + 2, none⟩ = some (.int .i64 f.qt) := H4.out.f.at_ 2 (by omega)
         have xh3 : W4.cell? ⟨g, o + 3, none⟩ = some (.int .i64 f.qb) := H4.out.f.at_ 3 (by omega)
         have xh4 : W4.cell? ⟨g, o + 4, none⟩ = some (.int .i64 f.qr) := H4.out.f.at_ 4 (by omega)
         have xh5 : W4.cell? ⟨g, o + 5, none⟩ = some (.int .i64 f.qc) := H4.out.f.at_ 5 (by omega)
         have xh13 : W4.cell? ⟨g, o + 13, none⟩ = some (.int .u64 f.fu) := H4.out.f.at_ 13 (by omega)
         have r0 := H4.out.r.at_ 0
         have r1 := H4.out.r.at_ 1
         have r2 := H4.out.r.at_ 2
         have q0 := H4.out.r.free 0
         have q1 := H4.out.r.free 1
         have q2 := H4.out.r.free 2
         have s2 : W4.cell? ⟨g, o + 2, none⟩ = some (.int .i64 f.qt) := by rw []; exact xh2
         have s3 : W4.cell? ⟨g, o + 3, none⟩ = some (.int .i64 f.qb) := by rw []; exact xh3
         have s4 : W4.cell? ⟨g, o + 4, none⟩ = some (.int .i64 f.qr) := by rw []; exact xh4
         have s5 : W4.cell? ⟨g, o + 5, none⟩ = some (.int .i64 f.qc) := by rw []; exact xh5
         have s13 : W4.cell? ⟨g, o + 13, none⟩ = some (.int .u64 f.fu) := by rw []; exact xh13
         clear hb))
  clear d2 d3 d4 d5 d13 ah2 ah3 ah4 ah5 ah13 bh2 bh3 bh4 bh5 bh13 xh2 xh3 xh4 xh5 xh13 r0 r1 r2 q0 q1 q2 H0 H1 H2 H3
  go_wp2
  refine bodyPost_ret (results_cell_row (P := Tryz.prog) Tryz.results98 _ _ w.heap.size 184 _ (0, 0) _ rfl (H4.out.res ⟨true, 1, IntKind.i64.wrap (s.old (ringI f.qr f.qc (sub1 f.fu)))⟩) Tryz.underlying184 rfl (by kernel_rfl)) rfl ?_
  exact H4.out.done ⟨true, 1, IntKind.i64.wrap (s.old (ringI f.qr f.qc (sub1 f.fu)))⟩
set_option maxRecDepth 100000 in
set_option maxHeartbeats 2000000 in
theorem pop_6y (he : EnvF B w p a s es rs) (hf : FrameP w g o pre post f) (hB : B ≤ g) (hl : f.ln = 6) (hh : s.hit f.qt f.fv = true) :
    Calls Tryz.prog 98 #[.pointer (some ⟨p, 0, none⟩), .pointer (some ⟨g, o, none⟩)] w (Line B p g o pre post a .none (s.go 3 f.qt (fun x => if x = f.fv then add1 f.fv else x)) es rs { f with ln := 7 } w) := by
  have h0 := LSt.start he hf hB
  have H0 := Lib.hid h0
  have hng : g ≠ w.heap.size := by have := h0.lf; omega
  have hng1 := hng.symm
  have hgp : g ≠ p := (h0.f.ne h0.e.m).1
  clear he hf hB
  have HH := Lib.hid hh
  clear hh
  have c1 : (w.alloc (.cells (rcells' .none) 184)).cell? ⟨g, o + 1, none⟩ = some (.int .i64 f.ln) := H0.out.f.at_ 1 (by omega)
  rw [hl] at c1
  go_enter Tryz.func98, Tryz.ntmps98
  go_upto_region 1 with fail
  generalize (w.alloc (.cells (rcells' .none) 184)) = W0 at *
  clear h0
  go_upto_region 24 with fail
  clear c1
  have H1 := Lib.hid H0.out.drew
  have d2 : W0.drew.cell? ⟨g, o + 2, none⟩ = some (.int .i64 f.qt) := H1.out.f.at_ 2 (by omega)
  have d14 : W0.drew.cell? ⟨g, o + 14, none⟩ = some (.int .u64 f.fv) := H1.out.f.at_ 14 (by omega)
  go_region_held3 (fun w' => w'.cell? ⟨g, o + 2, none⟩ = some (.int .i64 f.qt) ∧ w'.cell? ⟨g, o + 14, none⟩ = some (.int .u64 f.fv)) (go_keep)
    ((go_at_call 106
      refine (ecas_any H1.out.e.m _ _ _).mono ?_
      rintro e W2 ⟨rfl, he, hf⟩
      have H2 := Lib.hid (H1.out.acc he hf)
      have ah2 : W2.cell? ⟨g, o + 2, none⟩ = some (.int .i64 f.qt) := H2.out.f.at_ 2 (by omega)
      have ah14 : W2.cell? ⟨g, o + 14, none⟩ = some (.int .u64 f.fv) := H2.out.f.at_ 14 (by omega)
      have s2 : W2.cell? ⟨g, o + 2, none⟩ = some (.int .i64 f.qt) := by rw []; exact ah2
      have s14 : W2.cell? ⟨g, o + 14, none⟩ = some (.int .u64 f.fv) := by rw []; exact ah14
      clear he hf))
  clear d2 d14 ah2 ah14 H0 H1
  rw [HH.out]
  have c1 : W2.cell? ⟨g, o + 1, none⟩ = some (.int .i64 f.ln) := H2.out.f.at_ 1 (by omega)
  have k1 := H2.out.f.free (o + 1)
  have r0 := H2.out.r.at_ 0
  have q0 := H2.out.r.free 0
  have r1 := H2.out.r.at_ 1
  have q1 := H2.out.r.free 1
  have r2 := H2.out.r.at_ 2
  have q2 := H2.out.r.free 2
  rw [hl] at c1
  go_wp2
  have H3 := Lib.hid (H2.out.set 1 (by omega) (.int .i64 (7)) { f with ln := 7 } rfl)
  clear c1 k1 r0 q0 r1 q1 r2 q2
  refine bodyPost_ret (results_cell_row (P := Tryz.prog) Tryz.results98 _ _ w.heap.size 184 _ (0, 0) _ rfl (H3.out.res .none) Tryz.underlying184 rfl (by kernel_rfl)) rfl ?_
  exact H3.out.done .none
set_option maxRecDepth 100000 in
set_option maxHeartbeats 2000000 in
theorem pop_6n (he : EnvF B w p a s es rs) (hf : FrameP w g o pre post f) (hB : B ≤ g) (hl : f.ln = 6) (hh : s.hit f.qt f.fv = false) :
    Calls Tryz.prog 98 #[.pointer (some ⟨p, 0, none⟩), .pointer (some ⟨g, o, none⟩)] w (Line B p g o pre post a .none (s.go 3 f.qt (fun x => if x = f.fv then add1 f.fv else x)) es rs { f with ln := 9 } w) := by
  have h0 := LSt.start he hf hB
  have H0 := Lib.hid h0
  have hng : g ≠ w.heap.size := by have := h0.lf; omega
  have hng1 := hng.symm
  have hgp : g ≠ p := (h0.f.ne h0.e.m).1
  clear he hf hB
  have HH := Lib.hid hh
  clear hh
  have c1 : (w.alloc (.cells (rcells' .none) 184)).cell? ⟨g, o + 1, none⟩ = some (.int .i64 f.ln) := H0.out.f.at_ 1 (by omega)
  rw [hl] at c1
  go_enter Tryz.func98, Tryz.ntmps98
  go_upto_region 1 with fail
  generalize (w.alloc (.cells (rcells' .none) 184)) = W0 at *
  clear h0
  go_upto_region 24 with fail
  clear c1
  have H1 := Lib.hid H0.out.drew
  have d2 : W0.drew.cell? ⟨g, o + 2, none⟩ = some (.int .i64 f.qt) := H1.out.f.at_ 2 (by omega)
  have d14 : W0.drew.cell? ⟨g, o + 14, none⟩ = some (.int .u64 f.fv) := H1.out.f.at_ 14 (by omega)
  go_region_held3 (fun w' => w'.cell? ⟨g, o + 2, none⟩ = some (.int .i64 f.qt) ∧ w'.cell? ⟨g, o + 14, none⟩ = some (.int .u64 f.fv)) (go_keep)
    ((go_at_call 106
      refine (ecas_any H1.out.e.m _ _ _).mono ?_
      rintro e W2 ⟨rfl, he, hf⟩
      have H2 := Lib.hid (H1.out.acc he hf)
      have ah2 : W2.cell? ⟨g, o + 2, none⟩ = some (.int .i64 f.qt) := H2.out.f.at_ 2 (by omega)
      have ah14 : W2.cell? ⟨g, o + 14, none⟩ = some (.int .u64 f.fv) := H2.out.f.at_ 14 (by omega)
      have s2 : W2.cell? ⟨g, o + 2, none⟩ = some (.int .i64 f.qt) := by rw []; exact ah2
      have s14 : W2.cell? ⟨g, o + 14, none⟩ = some (.int .u64 f.fv) := by rw []; exact ah14
      clear he hf))
  clear d2 d14 ah2 ah14 H0 H1
  rw [HH.out]
  have c1 : W2.cell? ⟨g, o + 1, none⟩ = some (.int .i64 f.ln) := H2.out.f.at_ 1 (by omega)
  have k1 := H2.out.f.free (o + 1)
  have r0 := H2.out.r.at_ 0
  have q0 := H2.out.r.free 0
  have r1 := H2.out.r.at_ 1
  have q1 := H2.out.r.free 1
  have r2 := H2.out.r.at_ 2
  have q2 := H2.out.r.free 2
  rw [hl] at c1
  go_wp2
  have H3 := Lib.hid (H2.out.set 1 (by omega) (.int .i64 (9)) { f with ln := 9 } rfl)
  clear c1 k1 r0 q0 r1 q1 r2 q2
  refine bodyPost_ret (results_cell_row (P := Tryz.prog) Tryz.results98 _ _ w.heap.size 184 _ (0, 0) _ rfl (H3.out.res .none) Tryz.underlying184 rfl (by kernel_rfl)) rfl ?_
  exact H3.out.done .none
set_option maxRecDepth 100000 in
set_option maxHeartbeats 2000000 in
theorem pop_7 (he : EnvF B w p a s es rs) (hf : FrameP w g o pre post f) (hB : B ≤ g) (hl : f.ln = 7) :
    Calls Tryz.prog 98 #[.pointer (some ⟨p, 0, none⟩), .pointer (some ⟨g, o, none⟩)] w (Line B p g o pre post a .none (s.go 2 f.qb (fun _ => f.fu)) es rs { f with ln := 8 } w) := by
  have h0 := LSt.start he hf hB
  have H0 := Lib.hid h0
  have hng : g ≠ w.heap.size := by have := h0.lf; omega
  have hng1 := hng.symm
  have hgp : g ≠ p := (h0.f.ne h0.e.m).1
  clear he hf hB
  have c1 : (w.alloc (.cells (rcells' .none) 184)).cell? ⟨g, o + 1, none⟩ = some (.int .i64 f.ln) := H0.out.f.at_ 1 (by omega)
  rw [hl] at c1
  go_enter Tryz.func98, Tryz.ntmps98
  go_upto_region 1 with fail
  generalize (w.alloc (.cells (rcells' .none) 184)) = W0 at *
  clear h0
  go_upto_region 27 with fail
  clear c1
  have H1 := Lib.hid H0.out.drew
  have d3 : W0.drew.cell? ⟨g, o + 3, none⟩ = some (.int .i64 f.qb) := H1.out.f.at_ 3 (by omega)
  have d13 : W0.drew.cell? ⟨g, o + 13, none⟩ = some (.int .u64 f.fu) := H1.out.f.at_ 13 (by omega)
  go_region_held3 (fun w' => w'.cell? ⟨g, o + 3, none⟩ = some (.int .i64 f.qb) ∧ w'.cell? ⟨g, o + 13, none⟩ = some (.int .u64 f.fu)) (go_keep)
    ((go_at_call 107
      refine (estore_any H1.out.e.m _ _).mono ?_
      rintro e W2 ⟨rfl, he, hf⟩
      have H2 := Lib.hid (H1.out.acc he hf)
      have ah3 : W2.cell? ⟨g, o + 3, none⟩ = some (.int .i64 f.qb) := H2.out.f.at_ 3 (by omega)
      have ah13 : W2.cell? ⟨g, o + 13, none⟩ = some (.int .u64 f.fu) := H2.out.f.at_ 13 (by omega)
      have s3 : W2.cell? ⟨g, o + 3, none⟩ = some (.int .i64 f.qb) := by rw []; exact ah3
      have s13 : W2.cell? ⟨g, o + 13, none⟩ = some (.int .u64 f.fu) := by rw []; exact ah13
      clear he hf))
  clear d3 d13 ah3 ah13 H0 H1
  have c1 : W2.cell? ⟨g, o + 1, none⟩ = some (.int .i64 f.ln) := H2.out.f.at_ 1 (by omega)
  have k1 := H2.out.f.free (o + 1)
  have r0 := H2.out.r.at_ 0
  have q0 := H2.out.r.free 0
  have r1 := H2.out.r.at_ 1
  have q1 := H2.out.r.free 1
  have r2 := H2.out.r.at_ 2
  have q2 := H2.out.r.free 2
  rw [hl] at c1
  go_wp2
  have H3 := Lib.hid (H2.out.set 1 (by omega) (.int .i64 (8)) { f with ln := 8 } rfl)
  clear c1 k1 r0 q0 r1 q1 r2 q2
  refine bodyPost_ret (results_cell_row (P := Tryz.prog) Tryz.results98 _ _ w.heap.size 184 _ (0, 0) _ rfl (H3.out.res .none) Tryz.underlying184 rfl (by kernel_rfl)) rfl ?_
  exact H3.out.done .none
set_option maxRecDepth 100000 in
set_option maxHeartbeats 2000000 in
theorem pop_9 (he : EnvF B w p a s es rs) (hf : FrameP w g o pre post f) (hB : B ≤ g) (h1 : (f.ln == 1) = false) (h2 : (f.ln == 2) = false) (h3 : (f.ln == 3) = false) (h4 : (f.ln == 4) = false) (h5 : (f.ln == 5) = false) (h6 : (f.ln == 6) = false) (h7 : (f.ln == 7) = false) (h8 : (f.ln == 8) = false) :
    Calls Tryz.prog 98 #[.pointer (some ⟨p, 0, none⟩), .pointer (some ⟨g, o, none⟩)] w (Line B p g o pre post a ⟨true, 2, 0⟩ (s.go 2 f.qb (fun _ => f.fu)) es rs f w) := by
  have h0 := LSt.start he hf hB
  have H0 := Lib.hid h0
  have hng : g ≠ w.heap.size := by have := h0.lf; omega
  have hng1 := hng.symm
  have hgp : g ≠ p := (h0.f.ne h0.e.m).1
  clear he hf hB
  have c1 : (w.alloc (.cells (rcells' .none) 184)).cell? ⟨g, o + 1, none⟩ = some (.int .i64 f.ln) := H0.out.f.at_ 1 (by omega)
  go_enter Tryz.func98, Tryz.ntmps98
  go_upto_region 1 with fail
  generalize (w.alloc (.cells (rcells' .none) 184)) = W0 at *
  clear h0
  go_upto_region 3 with fail
  clear c1
  have H1 := Lib.hid H0.out.drew
  have d3 : W0.drew.cell? ⟨g, o + 3, none⟩ = some (.int .i64 f.qb) := H1.out.f.at_ 3 (by omega)
  have d13 : W0.drew.cell? ⟨g, o + 13, none⟩ = some (.int .u64 f.fu) := H1.out.f.at_ 13 (by omega)
  go_region_held3 (fun w' => w'.cell? ⟨g, o + 3, none⟩ = some (.int .i64 f.qb) ∧ w'.cell? ⟨g, o + 13, none⟩ = some (.int .u64 f.fu)) (go_keep)
    ((go_at_call 107
      refine (estore_any H1.out.e.m _ _).mono ?_
      rintro e W2 ⟨rfl, he, hf⟩
      have H2 := Lib.hid (H1.out.acc he hf)
      have ah3 : W2.cell? ⟨g, o + 3, none⟩ = some (.int .i64 f.qb) := H2.out.f.at_ 3 (by omega)
      have ah13 : W2.cell? ⟨g, o + 13, none⟩ = some (.int .u64 f.fu) := H2.out.f.at_ 13 (by omega)
      have s3 : W2.cell? ⟨g, o + 3, none⟩ = some (.int .i64 f.qb) := by rw []; exact ah3
      have s13 : W2.cell? ⟨g, o + 13, none⟩ = some (.int .u64 f.fu) := by rw []; exact ah13
      clear he hf))
  clear d3 d13 ah3 ah13 H0 H1
  go_wp2_with fail
  (with_reducible refine (end_any _ _ _).mono ?_)
  rintro e W3 ⟨rfl, hb⟩
  have H3 := Lib.hid (H2.out.below hb)
  clear hb H2
  have r0 := H3.out.r.at_ 0
  have q0 := H3.out.r.free 0
  have r1 := H3.out.r.at_ 1
  have q1 := H3.out.r.free 1
  have r2 := H3.out.r.at_ 2
  have q2 := H3.out.r.free 2
  go_wp2
  refine bodyPost_ret (results_cell_row (P := Tryz.prog) Tryz.results98 _ _ w.heap.size 184 _ (0, 0) _ rfl (H3.out.res ⟨true, 2, 0⟩) Tryz.underlying184 rfl (by kernel_rfl)) rfl ?_
  exact H3.out.done ⟨true, 2, 0⟩
theorem pop_any (he : EnvF B w p a s es rs) (hf : FrameP w g o pre post f) (hB : B ≤ g) (hqc : f.qc ≤ 9223372036854775807) :
    Calls Tryz.prog 98 #[.pointer (some ⟨p, 0, none⟩), .pointer (some ⟨g, o, none⟩)] w (Line B p g o pre post a (popS s f).2.2 (popS s f).1 es rs (popS s f).2.1 w) := by
  unfold popS
  by_cases h1 : f.ln = 1
  · simp only [if_pos h1]
    exact pop_1 he hf hB h1
  by_cases h2 : f.ln = 2
  · simp only [if_neg h1, if_pos h2]
    by_cases hc : sizeI f.fu (s.old f.qt) ≤ 0
    · simp only [if_pos hc]
      exact pop_2e he hf hB h2 hc
    · simp only [if_neg hc]
      exact pop_2 he hf hB h2 (by omega)
  by_cases h3 : f.ln = 3
  · simp only [if_neg h1, if_neg h2, if_pos h3]
    exact pop_3 he hf hB h3
  by_cases h4 : f.ln = 4
  · simp only [if_neg h1, if_neg h2, if_neg h3, if_pos h4, pop4]
    by_cases hc : sizeI (sub1 f.fu) (s.old f.qt) = 0
    · simp only [if_pos hc]
      exact pop_4a he hf hB h4 hc
    · by_cases hd : sizeI (sub1 f.fu) (s.old f.qt) < 0
      · simp only [if_neg hc, if_pos hd]
        exact pop_4b he hf hB h4 hd
      · simp only [if_neg hc, if_neg hd]
        exact pop_4c he hf hB h4 (by omega)
  by_cases h5 : f.ln = 5
  · simp only [if_neg h1, if_neg h2, if_neg h3, if_neg h4, if_pos (show f.ln = 5 ∨ f.ln = 8 from .inl h5)]
    exact pop_5 he hf hB h5 hqc
  by_cases h8 : f.ln = 8
  · simp only [if_neg h1, if_neg h2, if_neg h3, if_neg h4, if_pos (show f.ln = 5 ∨ f.ln = 8 from .inr h8)]
    exact pop_8 he hf hB h8 hqc
  have h58 : ¬ (f.ln = 5 ∨ f.ln = 8) := by omega
  by_cases h6 : f.ln = 6
  · simp only [if_neg h1, if_neg h2, if_neg h3, if_neg h4, if_neg h58, if_pos h6]
    cases hh : s.hit f.qt f.fv with
    | true => simpa using pop_6y he hf hB h6 hh
    | false => simpa using pop_6n he hf hB h6 hh
  by_cases h7 : f.ln = 7
  · simp only [if_neg h1, if_neg h2, if_neg h3, if_neg h4, if_neg h58, if_neg h6, if_pos h7]
    exact pop_7 he hf hB h7
  simp only [if_neg h1, if_neg h2, if_neg h3, if_neg h4, if_neg h58, if_neg h6, if_neg h7]
  exact pop_9 he hf hB (by simpa using h1) (by simpa using h2) (by simpa using h3) (by simpa using h4) (by simpa using h5) (by simpa using h6) (by simpa using h7) (by simpa using h8)
end
end Go.Proofs.YtheimjcgpbmecaaGreat
