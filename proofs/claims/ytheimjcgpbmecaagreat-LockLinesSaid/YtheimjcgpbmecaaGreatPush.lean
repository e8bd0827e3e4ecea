/-
  The reference's push, line by line. (Written by wip/gen_push.py.)
-/
import Derived.Test.YtheimjcgpbmecaaGreatMgAF
namespace Go.Proofs.YtheimjcgpbmecaaGreat
open Go Go.RowKit
set_option linter.unusedSimpArgs false


section
variable {B p g o : Nat} {w : World} {pre post : List Value} {a : EnvA} {s : St} {es : List Ev} {rs : List Rec} {f : Fra}

set_option maxRecDepth 100000 in
set_option maxHeartbeats 2000000 in
theorem push_1 (he : EnvF B w p a s es rs) (hf : FrameP w g o pre post f) (hB : B ≤ g) (hl : f.ln = 1) :
    Calls Tryz.prog 97 #[.pointer (some ⟨p, 0, none⟩), .pointer (some ⟨g, o, none⟩)] w (Line B p g o pre post a .none (s.go 1 f.qb id) es rs { f with fu := s.old f.qb, ln := 2 } w) := by
  have h0 := LSt.start he hf hB
  have H0 := Lib.hid h0
  have hng : g ≠ w.heap.size := by have := h0.lf; omega
  have hng1 := hng.symm
  have hgp : g ≠ p := (h0.f.ne h0.e.m).1
  clear he hf hB
  have c1 : (w.alloc (.cells (rcells' .none) 184)).cell? ⟨g, o + 1, none⟩ = some (.int .i64 f.ln) := H0.out.f.at_ 1 (by omega)
  have c3 : (w.alloc (.cells (rcells' .none) 184)).cell? ⟨g, o + 3, none⟩ = some (.int .i64 f.qb) := H0.out.f.at_ 3 (by omega)
  rw [hl] at c1
  go_enter Tryz.func97, Tryz.ntmps97
  go_upto_region 1 with fail
  generalize (w.alloc (.cells (rcells' .none) 184)) = W0 at *
  clear h0
  go_wp2_with fail
  (with_reducible refine (eload_any H0.out.e.m _).mono ?_)
  rintro e W1 ⟨rfl, he, hf⟩
  have H1 := Lib.hid (H0.out.acc he hf)
  clear c1 c3
  clear he hf H0
  have c1 : W1.cell? ⟨g, o + 1, none⟩ = some (.int .i64 f.ln) := H1.out.f.at_ 1 (by omega)
  have c13 : W1.cell? ⟨g, o + 13, none⟩ = some (.int .u64 f.fu) := H1.out.f.at_ 13 (by omega)
  have k13 := H1.out.f.free (o + 13)
  have k1 := H1.out.f.free (o + 1)
  have r0 := H1.out.r.at_ 0
  have q0 := H1.out.r.free 0
  have r1 := H1.out.r.at_ 1
  have q1 := H1.out.r.free 1
  have r2 := H1.out.r.at_ 2
  have q2 := H1.out.r.free 2
  rw [hl] at c1
  go_wp2
  have H2 := Lib.hid ((H1.out.set 13 (by omega) (.int .u64 (s.old f.qb)) { f with fu := s.old f.qb } rfl).set 1 (by omega) (.int .i64 (2)) { f with fu := s.old f.qb, ln := 2 } rfl)
  clear c1 c13 k13 k1 r0 q0 r1 q1 r2 q2
  refine bodyPost_ret (results_cell_row (P := Tryz.prog) Tryz.results97 _ _ w.heap.size 184 _ (0, 0) _ rfl (H2.out.res .none) Tryz.underlying184 rfl (by kernel_rfl)) rfl ?_
  exact H2.out.done .none
set_option maxRecDepth 100000 in
set_option maxHeartbeats 2000000 in
theorem push_2f (he : EnvF B w p a s es rs) (hf : FrameP w g o pre post f) (hB : B ≤ g) (hl : f.ln = 2) (hc : f.qc ≤ sizeI f.fu (s.old f.qt)) :
    Calls Tryz.prog 97 #[.pointer (some ⟨p, 0, none⟩), .pointer (some ⟨g, o, none⟩)] w (Line B p g o pre post a ⟨true, 3, 0⟩ (s.go 1 f.qt id) es rs { f with fv := s.old f.qt } w) := by
  have h0 := LSt.start he hf hB
  have H0 := Lib.hid h0
  have hng : g ≠ w.heap.size := by have := h0.lf; omega
  have hng1 := hng.symm
  have hgp : g ≠ p := (h0.f.ne h0.e.m).1
  clear he hf hB
  have c1 : (w.alloc (.cells (rcells' .none) 184)).cell? ⟨g, o + 1, none⟩ = some (.int .i64 f.ln) := H0.out.f.at_ 1 (by omega)
  have c2 : (w.alloc (.cells (rcells' .none) 184)).cell? ⟨g, o + 2, none⟩ = some (.int .i64 f.qt) := H0.out.f.at_ 2 (by omega)
  rw [hl] at c1
  go_enter Tryz.func97, Tryz.ntmps97
  go_upto_region 1 with fail
  generalize (w.alloc (.cells (rcells' .none) 184)) = W0 at *
  clear h0
  go_wp2_with fail
  (with_reducible refine (eload_any H0.out.e.m _).mono ?_)
  rintro e W1 ⟨rfl, he, hf⟩
  have H1 := Lib.hid (H0.out.acc he hf)
  clear c1 c2
  clear he hf H0
  have c14 : W1.cell? ⟨g, o + 14, none⟩ = some (.int .u64 f.fv) := H1.out.f.at_ 14 (by omega)
  have k14 := H1.out.f.free (o + 14)
  go_upto_region 8 with fail
  have H2 := Lib.hid (H1.out.set 14 (by omega) (.int .u64 (s.old f.qt)) { f with fv := s.old f.qt } rfl)
  clear c14 k14
  generalize (W1.setCell ⟨g, o + 14, none⟩ (.int .u64 (s.old f.qt))) = W2 at *
  clear H1
  have hq := fun (x y : Int) (u : World) => (size_any x y u).mono (fun e w' (h : e = .returned (.int .i64 (sizeI x y)) ∧ u = w') => (⟨h.1, h.2.symm⟩ : e = .returned (.int .i64 (sizeI x y)) ∧ w' = u))
  have c13 : W2.cell? ⟨g, o + 13, none⟩ = some (.int .u64 f.fu) := H2.out.f.at_ 13 (by omega)
  have c14 : W2.cell? ⟨g, o + 14, none⟩ = some (.int .u64 (s.old f.qt)) := H2.out.f.at_ 14 (by omega)
  have c5 : W2.cell? ⟨g, o + 5, none⟩ = some (.int .i64 f.qc) := H2.out.f.at_ 5 (by omega)
  have c1 : W2.cell? ⟨g, o + 1, none⟩ = some (.int .i64 f.ln) := H2.out.f.at_ 1 (by omega)
  rw [hl] at c1
  go_quiet ((go_at_call 134; exact Calls.quiet_of_same (hq _ _ _)))
  clear hq
  have H3 := Lib.hid (H2.out.drewN nq)
  clear c13 c14 c5 c1
  generalize W2.drewN nq = W3 at *
  clear H2
  go_wp2_with fail
  (with_reducible refine (end_any _ _ _).mono ?_)
  rintro e W4 ⟨rfl, hb⟩
  have H4 := Lib.hid (H3.out.below hb)
  clear hb H3
  have r0 := H4.out.r.at_ 0
  have q0 := H4.out.r.free 0
  have r1 := H4.out.r.at_ 1
  have q1 := H4.out.r.free 1
  have r2 := H4.out.r.at_ 2
  have q2 := H4.out.r.free 2
  go_wp2
  refine bodyPost_ret (results_cell_row (P := Tryz.prog) Tryz.results97 _ _ w.heap.size 184 _ (0, 0) _ rfl (H4.out.res ⟨true, 3, 0⟩) Tryz.underlying184 rfl (by kernel_rfl)) rfl ?_
  exact H4.out.done ⟨true, 3, 0⟩
set_option maxRecDepth 100000 in
set_option maxHeartbeats 2000000 in
theorem push_2 (he : EnvF B w p a s es rs) (hf : FrameP w g o pre post f) (hB : B ≤ g) (hl : f.ln = 2) (hc : ¬ f.qc ≤ sizeI f.fu (s.old f.qt)) :
    Calls Tryz.prog 97 #[.pointer (some ⟨p, 0, none⟩), .pointer (some ⟨g, o, none⟩)] w (Line B p g o pre post a .none (s.go 1 f.qt id) es rs { f with fv := s.old f.qt, ln := 3 } w) := by
  have h0 := LSt.start he hf hB
  have H0 := Lib.hid h0
  have hng : g ≠ w.heap.size := by have := h0.lf; omega
  have hng1 := hng.symm
  have hgp : g ≠ p := (h0.f.ne h0.e.m).1
  clear he hf hB
  have c1 : (w.alloc (.cells (rcells' .none) 184)).cell? ⟨g, o + 1, none⟩ = some (.int .i64 f.ln) := H0.out.f.at_ 1 (by omega)
  have c2 : (w.alloc (.cells (rcells' .none) 184)).cell? ⟨g, o + 2, none⟩ = some (.int .i64 f.qt) := H0.out.f.at_ 2 (by omega)
  rw [hl] at c1
  go_enter Tryz.func97, Tryz.ntmps97
  go_upto_region 1 with fail
  generalize (w.alloc (.cells (rcells' .none) 184)) = W0 at *
  clear h0
  go_wp2_with fail
  (with_reducible refine (eload_any H0.out.e.m _).mono ?_)
  rintro e W1 ⟨rfl, he, hf⟩
  have H1 := Lib.hid (H0.out.acc he hf)
  clear c1 c2
  clear he hf H0
  have c14 : W1.cell? ⟨g, o + 14, none⟩ = some (.int .u64 f.fv) := H1.out.f.at_ 14 (by omega)
  have k14 := H1.out.f.free (o + 14)
  go_upto_region 8 with fail
  have H2 := Lib.hid (H1.out.set 14 (by omega) (.int .u64 (s.old f.qt)) { f with fv := s.old f.qt } rfl)
  clear c14 k14
  generalize (W1.setCell ⟨g, o + 14, none⟩ (.int .u64 (s.old f.qt))) = W2 at *
  clear H1
  have hq := fun (x y : Int) (u : World) => (size_any x y u).mono (fun e w' (h : e = .returned (.int .i64 (sizeI x y)) ∧ u = w') => (⟨h.1, h.2.symm⟩ : e = .returned (.int .i64 (sizeI x y)) ∧ w' = u))
  have c13 : W2.cell? ⟨g, o + 13, none⟩ = some (.int .u64 f.fu) := H2.out.f.at_ 13 (by omega)
  have c14 : W2.cell? ⟨g, o + 14, none⟩ = some (.int .u64 (s.old f.qt)) := H2.out.f.at_ 14 (by omega)
  have c5 : W2.cell? ⟨g, o + 5, none⟩ = some (.int .i64 f.qc) := H2.out.f.at_ 5 (by omega)
  have c1 : W2.cell? ⟨g, o + 1, none⟩ = some (.int .i64 f.ln) := H2.out.f.at_ 1 (by omega)
  rw [hl] at c1
  go_quiet ((go_at_call 134; exact Calls.quiet_of_same (hq _ _ _)))
  clear hq
  have H3 := Lib.hid (H2.out.drewN nq)
  clear c13 c14 c5 c1
  generalize W2.drewN nq = W3 at *
  clear H2
  have c1 : W3.cell? ⟨g, o + 1, none⟩ = some (.int .i64 f.ln) := H3.out.f.at_ 1 (by omega)
  have k1 := H3.out.f.free (o + 1)
  have r0 := H3.out.r.at_ 0
  have q0 := H3.out.r.free 0
  have r1 := H3.out.r.at_ 1
  have q1 := H3.out.r.free 1
  have r2 := H3.out.r.at_ 2
  have q2 := H3.out.r.free 2
  rw [hl] at c1
  go_wp2
  have H4 := Lib.hid (H3.out.set 1 (by omega) (.int .i64 (3)) { f with fv := s.old f.qt, ln := 3 } rfl)
  clear c1 k1 r0 q0 r1 q1 r2 q2
  refine bodyPost_ret (results_cell_row (P := Tryz.prog) Tryz.results97 _ _ w.heap.size 184 _ (0, 0) _ rfl (H4.out.res .none) Tryz.underlying184 rfl (by kernel_rfl)) rfl ?_
  exact H4.out.done .none
set_option maxRecDepth 100000 in
set_option maxHeartbeats 2000000 in
theorem push_3 (he : EnvF B w p a s es rs) (hf : FrameP w g o pre post f) (hB : B ≤ g) (hl : f.ln = 3) (hu : 0 ≤ f.fu) (hqc : f.qc ≤ 9223372036854775807) :
    Calls Tryz.prog 97 #[.pointer (some ⟨p, 0, none⟩), .pointer (some ⟨g, o, none⟩)] w (Line B p g o pre post a .none (s.go 2 (ringI f.qr f.qc f.fu) (fun _ => IntKind.u64.wrap f.fa)) es rs { f with ln := 4 } w) := by
  have h0 := LSt.start he hf hB
  have H0 := Lib.hid h0
  have hng : g ≠ w.heap.size := by have := h0.lf; omega
  have hng1 := hng.symm
  have hgp : g ≠ p := (h0.f.ne h0.e.m).1
  clear he hf hB
  have c1 : (w.alloc (.cells (rcells' .none) 184)).cell? ⟨g, o + 1, none⟩ = some (.int .i64 f.ln) := H0.out.f.at_ 1 (by omega)
  rw [hl] at c1
  go_enter Tryz.func97, Tryz.ntmps97
  go_upto_region 1 with fail
  generalize (w.alloc (.cells (rcells' .none) 184)) = W0 at *
  clear h0
  go_upto_region 11 with fail
  clear c1
  have H1 := Lib.hid H0.out.drew
  have d2 : W0.drew.cell? ⟨g, o + 2, none⟩ = some (.int .i64 f.qt) := H1.out.f.at_ 2 (by omega)
  have d3 : W0.drew.cell? ⟨g, o + 3, none⟩ = some (.int .i64 f.qb) := H1.out.f.at_ 3 (by omega)
  have d4 : W0.drew.cell? ⟨g, o + 4, none⟩ = some (.int .i64 f.qr) := H1.out.f.at_ 4 (by omega)
  have d5 : W0.drew.cell? ⟨g, o + 5, none⟩ = some (.int .i64 f.qc) := H1.out.f.at_ 5 (by omega)
  have d13 : W0.drew.cell? ⟨g, o + 13, none⟩ = some (.int .u64 f.fu) := H1.out.f.at_ 13 (by omega)
  have d6 : W0.drew.cell? ⟨g, o + 6, none⟩ = some (.int .i64 f.fa) := H1.out.f.at_ 6 (by omega)
  go_region_held3 (fun w' => w'.cell? ⟨g, o + 2, none⟩ = some (.int .i64 f.qt) ∧ w'.cell? ⟨g, o + 3, none⟩ = some (.int .i64 f.qb) ∧ w'.cell? ⟨g, o + 4, none⟩ = some (.int .i64 f.qr) ∧ w'.cell? ⟨g, o + 5, none⟩ = some (.int .i64 f.qc) ∧ w'.cell? ⟨g, o + 13, none⟩ = some (.int .u64 f.fu) ∧ w'.cell? ⟨g, o + 6, none⟩ = some (.int .i64 f.fa)) (go_keep)
    (first
      | (go_at_call 135
         refine (ring_any _ _ _ _ _ hu hqc _).mono ?_
         rintro e W2 ⟨rfl, hb⟩
         have H2 := Lib.hid (H1.out.below hb)
         have ah2 : W2.cell? ⟨g, o + 2, none⟩ = some (.int .i64 f.qt) := H2.out.f.at_ 2 (by omega)
         have ah3 : W2.cell? ⟨g, o + 3, none⟩ = some (.int .i64 f.qb) := H2.out.f.at_ 3 (by omega)
         have ah4 : W2.cell? ⟨g, o + 4, none⟩ = some (.int .i64 f.qr) := H2.out.f.at_ 4 (by omega)
         have ah5 : W2.cell? ⟨g, o + 5, none⟩ = some (.int .i64 f.qc) := H2.out.f.at_ 5 (by omega)
         have ah13 : W2.cell? ⟨g, o + 13, none⟩ = some (.int .u64 f.fu) := H2.out.f.at_ 13 (by omega)
         have ah6 : W2.cell? ⟨g, o + 6, none⟩ = some (.int .i64 f.fa) := H2.out.f.at_ 6 (by omega)
         clear hb)
      | (go_at_call 107
         refine (estore_any H2.out.e.m _ _).mono ?_
         rintro e W3 ⟨rfl, he, hf⟩
         have H3 := Lib.hid (H2.out.acc he hf)
         have bh2 : W3.cell? ⟨g, o + 2, none⟩ = some (.int .i64 f.qt) := H3.out.f.at_ 2 (by omega)
         have bh3 : W3.cell? ⟨g, o + 3, none⟩ = some (.int .i64 f.qb) := H3.out.f.at_ 3 (by omega)
         have bh4 : W3.cell? ⟨g, o + 4, none⟩ = some (.int .i64 f.qr) := H3.out.f.at_ 4 (by omega)
         have bh5 : W3.cell? ⟨g, o + 5, none⟩ = some (.int .i64 f.qc) := H3.out.f.at_ 5 (by omega)
         have bh13 : W3.cell? ⟨g, o + 13, none⟩ = some (.int .u64 f.fu) := H3.out.f.at_ 13 (by omega)
         have bh6 : W3.cell? ⟨g, o + 6, none⟩ = some (.int .i64 f.fa) := H3.out.f.at_ 6 (by omega)
         have s2 : W3.cell? ⟨g, o + 2, none⟩ = some (.int .i64 f.qt) := by rw []; exact bh2
         have s3 : W3.cell? ⟨g, o + 3, none⟩ = some (.int .i64 f.qb) := by rw []; exact bh3
         have s4 : W3.cell? ⟨g, o + 4, none⟩ = some (.int .i64 f.qr) := by rw []; exact bh4
         have s5 : W3.cell? ⟨g, o + 5, none⟩ = some (.int .i64 f.qc) := by rw []; exact bh5
         have s13 : W3.cell? ⟨g, o + 13, none⟩ = some (.int .u64 f.fu) := by rw []; exact bh13
         have s6 : W3.cell? ⟨g, o + 6, none⟩ = some (.int .i64 f.fa) := by rw []; exact bh6
         clear he hf))
  clear d2 d3 d4 d5 d13 d6 ah2 ah3 ah4 ah5 ah13 ah6 bh2 bh3 bh4 bh5 bh13 bh6 H0 H1 H2
  have c1 : W3.cell? ⟨g, o + 1, none⟩ = some (.int .i64 f.ln) := H3.out.f.at_ 1 (by omega)
  have k1 := H3.out.f.free (o + 1)
  have r0 := H3.out.r.at_ 0
  have q0 := H3.out.r.free 0
  have r1 := H3.out.r.at_ 1
  have q1 := H3.out.r.free 1
  have r2 := H3.out.r.at_ 2
  have q2 := H3.out.r.free 2
  rw [hl] at c1
  go_wp2
  have H4 := Lib.hid (H3.out.set 1 (by omega) (.int .i64 (4)) { f with ln := 4 } rfl)
  clear c1 k1 r0 q0 r1 q1 r2 q2
  refine bodyPost_ret (results_cell_row (P := Tryz.prog) Tryz.results97 _ _ w.heap.size 184 _ (0, 0) _ rfl (H4.out.res .none) Tryz.underlying184 rfl (by kernel_rfl)) rfl ?_
  exact H4.out.done .none
set_option maxRecDepth 100000 in
set_option maxHeartbeats 2000000 in
theorem push_4 (he : EnvF B w p a s es rs) (hf : FrameP w g o pre post f) (hB : B ≤ g) (h1 : (f.ln == 1) = false) (h2 : (f.ln == 2) = false) (h3 : (f.ln == 3) = false) :
    Calls Tryz.prog 97 #[.pointer (some ⟨p, 0, none⟩), .pointer (some ⟨g, o, none⟩)] w (Line B p g o pre post a ⟨true, 0, 0⟩ (s.go 2 f.qb (fun _ => IntKind.u64.wrap (f.fu + 1))) es rs f w) := by
  have h0 := LSt.start he hf hB
  have H0 := Lib.hid h0
  have hng : g ≠ w.heap.size := by have := h0.lf; omega
  have hng1 := hng.symm
  have hgp : g ≠ p := (h0.f.ne h0.e.m).1
  clear he hf hB
  have c1 : (w.alloc (.cells (rcells' .none) 184)).cell? ⟨g, o + 1, none⟩ = some (.int .i64 f.ln) := H0.out.f.at_ 1 (by omega)
  go_enter Tryz.func97, Tryz.ntmps97
  go_upto_region 1 with fail
  generalize (w.alloc (.cells (rcells' .none) 184)) = W0 at *
  clear h0
  go_upto_region 2 with fail
  clear c1
  have H1 := Lib.hid H0.out.drew
  have d3 : W0.drew.cell? ⟨g, o + 3, none⟩ = some (.int .i64 f.qb) := H1.out.f.at_ 3 (by omega)
  have d13 : W0.drew.cell? ⟨g, o + 13, none⟩ = some (.int .u64 f.fu) := H1.out.f.at_ 13 (by omega)
  go_region_held3 (fun w' => w'.cell? ⟨g, o + 3, none⟩ = some (.int .i64 f.qb) ∧ w'.cell? ⟨g, o + 13, none⟩ = some (.int .u64 f.fu)) (go_keep)
    ((go_at_call 107
      refine (estore_any H1.out.e.m _ _).mono ?_
      rintro e W2 ⟨rfl, he, hf⟩
      have H2 := Lib.hid (H1.out.acc he hf)
      have ah3 : W2.cell? ⟨g, o + 3, none⟩ = some (.int .i64 f.qb) := H2.out.f.at_ 3 (by omega)
      have ah13 : W2.cell? ⟨g, o + 13, none⟩ = some (.int .u64 f.fu) := H2.out.f.at_ 13 (by omega)
      have s3 : W2.cell? ⟨g, o + 3, none⟩ = some (.int .i64 f.qb) := by rw []; exact ah3
      have s13 : W2.cell? ⟨g, o + 13, none⟩ = some (.int .u64 f.fu) := by rw []; exact ah13
      clear he hf))
  clear d3 d13 ah3 ah13 H0 H1
  go_wp2_with fail
  (with_reducible refine (end_any _ _ _).mono ?_)
  rintro e W3 ⟨rfl, hb⟩
  have H3 := Lib.hid (H2.out.below hb)
  clear hb H2
  have r0 := H3.out.r.at_ 0
  have q0 := H3.out.r.free 0
  have r1 := H3.out.r.at_ 1
  have q1 := H3.out.r.free 1
  have r2 := H3.out.r.at_ 2
  have q2 := H3.out.r.free 2
  go_wp2
  refine bodyPost_ret (results_cell_row (P := Tryz.prog) Tryz.results97 _ _ w.heap.size 184 _ (0, 0) _ rfl (H3.out.res ⟨true, 0, 0⟩) Tryz.underlying184 rfl (by kernel_rfl)) rfl ?_
  exact H3.out.done ⟨true, 0, 0⟩
theorem push_any (he : EnvF B w p a s es rs) (hf : FrameP w g o pre post f) (hB : B ≤ g) (hu : 0 ≤ f.fu) (hqc : f.qc ≤ 9223372036854775807) :
    Calls Tryz.prog 97 #[.pointer (some ⟨p, 0, none⟩), .pointer (some ⟨g, o, none⟩)] w (Line B p g o pre post a (pushS s f).2.2 (pushS s f).1 es rs (pushS s f).2.1 w) := by
  unfold pushS
  by_cases h1 : f.ln = 1
  · simp only [if_pos h1]
    exact push_1 he hf hB h1
  by_cases h2 : f.ln = 2
  · simp only [if_neg h1, if_pos h2]
    by_cases hc : f.qc ≤ sizeI f.fu (s.old f.qt)
    · simp only [if_pos hc]
      exact push_2f he hf hB h2 hc
    · simp only [if_neg hc]
      exact push_2 he hf hB h2 hc
  by_cases h3 : f.ln = 3
  · simp only [if_neg h1, if_neg h2, if_pos h3]
    exact push_3 he hf hB h3 hu hqc
  simp only [if_neg h1, if_neg h2, if_neg h3]
  exact push_4 he hf hB (by simpa using h1) (by simpa using h2) (by simpa using h3)
end
end Go.Proofs.YtheimjcgpbmecaaGreat
