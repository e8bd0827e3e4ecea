/-
  The reference's leaf, for the kinds of frames that need no configuration. (Written by wip/gen_leaf8.py.)
-/
import Derived.Test.YtllllbepnnpeeaaGreatSteal8
import Derived.Test.YtllllbepnnpeeaaGreatEnter8
namespace Go.Proofs.YtllllbepnnpeeaaGreat
open Go Go.RowKit
set_option linter.unusedSimpArgs false

/-- A line that another function performs. -/
theorem LSt.call {B p g o : Nat} {pre post : List Value} {a : EnvA} {w W W' : World} {v : Value} {s s' : St} {es es' : List Ev} {rs rs' : List Rec} {f f' : Fra} {r : Res} {e : Ending} (h : LSt B p g o pre post a w v s es rs f W)
    (hl : Line B p g o pre post { a with ev := v } r s' es' rs' f' W e W') : ∃ v', e = .returned (.agg (rcells' r)) ∧ LSt B p g o pre post a w v' s' es' rs' f' W' := by
  obtain ⟨v', he, h1, h2, h3, h4⟩ := hl
  have h5 := h.lp
  have h6 := h.lg
  have h7 := h.lf
  have hsz := h.k.size
  obtain ⟨ks, _, hrow, _⟩ := h.e.rc
  have hv : ∀ k, v.ownBlock = some k → k ≠ w.heap.size := row_apart h.e.ev h.r (by decide)
  have hr : ∀ k, a.rv.ownBlock = some k → k ≠ w.heap.size := row_apart hrow h.r (by decide)
  refine ⟨v', he, h1, h2, h.r.of_same (h3.block _ h.r.lt (fun hm => ?_)), ?_, fun k hk => ?_, h.lp, h.lg, h.lf, h.bg, h.bw⟩
  · simp only [EnvA.S, List.mem_cons, List.mem_append, Option.mem_toList] at hm
    rcases hm with hm | hm | hm | hm | hm
    · omega
    · omega
    · omega
    · exact hv _ hm rfl
    · exact hr _ hm rfl
  · refine Fr.drop (T := g :: ({ a with ev := v } : EnvA).S p) h.k h3 (fun x hx => ?_)
    simp only [EnvA.S, List.mem_cons, List.mem_append, Option.mem_toList] at hx ⊢
    rcases hx with hx | hx | hx | hx | hx
    · exact .inl (.inl hx)
    · exact .inl (.inr (.inl hx))
    · exact .inl (.inr (.inr (.inl hx)))
    · rcases h.v x hx with e | e
      · exact .inl (.inr (.inr (.inr (.inl e))))
      · exact .inr e
    · exact .inl (.inr (.inr (.inr (.inr hx))))
  · rcases h4 k hk with e | e
    · exact h.v k e
    · exact .inr (by omega)

section
variable {B p g o : Nat} {w : World} {pre post : List Value} {a : EnvA} {s : St} {es : List Ev} {rs : List Rec} {f : Fra}

set_option maxRecDepth 100000 in
set_option maxHeartbeats 2000000 in
theorem leaf_0 (he : EnvF B w p a s es rs) (hf : FrameP w g o pre post f) (hB : B ≤ g) (hk : f.kd = 0) (hu : 0 ≤ f.fu) (hqc : f.qc ≤ 9223372036854775807) :
    Calls Tryz.prog 72 #[.pointer (some ⟨p, 0, none⟩), .pointer (some ⟨g, o, none⟩)] w (Line B p g o pre post a (pushS s f).2.2 (pushS s f).1 es rs (pushS s f).2.1 w) := by
  have h0 := LSt.start he hf hB
  have H0 := Lib.hid h0
  have hng : g ≠ w.heap.size := by have := h0.lf; omega
  have hng1 := hng.symm
  clear he hf hB
  have c0 : (w.alloc (.cells (rcells' .none) 177)).cell? ⟨g, o, none⟩ = some (.int .i64 f.kd) := H0.out.f.at_ 0 (by omega)
  rw [hk] at c0
  go_enter Tryz.func72, Tryz.ntmps72
  go_upto_region 1 with fail
  generalize (w.alloc (.cells (rcells' .none) 177)) = W0 at *
  clear h0
  go_wp2_with fail
  (with_reducible refine (push_any H0.out.e H0.out.f H0.out.bg hu hqc).mono ?_)
  rintro e W1 hline
  obtain ⟨v1, rfl, h1⟩ := H0.out.call hline
  have H1 := Lib.hid h1
  clear c0
  clear hline h1 H0
  generalize hR : (pushS s f).2.2 = R at *
  clear hR
  have r0 := H1.out.r.at_ 0
  have q0 := H1.out.r.free 0
  have r1 := H1.out.r.at_ 1
  have q1 := H1.out.r.free 1
  have r2 := H1.out.r.at_ 2
  have q2 := H1.out.r.free 2
  go_wp2
  refine bodyPost_ret (results_cell_row (P := Tryz.prog) Tryz.results72 _ _ w.heap.size 177 _ (0, 0) _ rfl (H1.out.res R) Tryz.underlying177 rfl (by kernel_rfl)) rfl ?_
  exact H1.out.done R
set_option maxRecDepth 100000 in
set_option maxHeartbeats 2000000 in
theorem leaf_1 (he : EnvF B w p a s es rs) (hf : FrameP w g o pre post f) (hB : B ≤ g) (hk : f.kd = 1) (hqc : f.qc ≤ 9223372036854775807) :
    Calls Tryz.prog 72 #[.pointer (some ⟨p, 0, none⟩), .pointer (some ⟨g, o, none⟩)] w (Line B p g o pre post a (popS s f).2.2 (popS s f).1 es rs (popS s f).2.1 w) := by
  have h0 := LSt.start he hf hB
  have H0 := Lib.hid h0
  have hng : g ≠ w.heap.size := by have := h0.lf; omega
  have hng1 := hng.symm
  clear he hf hB
  have c0 : (w.alloc (.cells (rcells' .none) 177)).cell? ⟨g, o, none⟩ = some (.int .i64 f.kd) := H0.out.f.at_ 0 (by omega)
  rw [hk] at c0
  go_enter Tryz.func72, Tryz.ntmps72
  go_upto_region 1 with fail
  generalize (w.alloc (.cells (rcells' .none) 177)) = W0 at *
  clear h0
  go_wp2_with fail
  (with_reducible refine (pop_any H0.out.e H0.out.f H0.out.bg hqc).mono ?_)
  rintro e W1 hline
  obtain ⟨v1, rfl, h1⟩ := H0.out.call hline
  have H1 := Lib.hid h1
  clear c0
  clear hline h1 H0
  generalize hR : (popS s f).2.2 = R at *
  clear hR
  have r0 := H1.out.r.at_ 0
  have q0 := H1.out.r.free 0
  have r1 := H1.out.r.at_ 1
  have q1 := H1.out.r.free 1
  have r2 := H1.out.r.at_ 2
  have q2 := H1.out.r.free 2
  go_wp2
  refine bodyPost_ret (results_cell_row (P := Tryz.prog) Tryz.results72 _ _ w.heap.size 177 _ (0, 0) _ rfl (H1.out.res R) Tryz.underlying177 rfl (by kernel_rfl)) rfl ?_
  exact H1.out.done R
set_option maxRecDepth 100000 in
set_option maxHeartbeats 2000000 in
theorem leaf_2 (he : EnvF B w p a s es rs) (hf : FrameP w g o pre post f) (hB : B ≤ g) (hk : f.kd = 2) (hu : 0 ≤ f.fv) (hqc : f.qc ≤ 9223372036854775807) :
    Calls Tryz.prog 72 #[.pointer (some ⟨p, 0, none⟩), .pointer (some ⟨g, o, none⟩)] w (Line B p g o pre post a (stealS s f).2.2 (stealS s f).1 es rs (stealS s f).2.1 w) := by
  have h0 := LSt.start he hf hB
  have H0 := Lib.hid h0
  have hng : g ≠ w.heap.size := by have := h0.lf; omega
  have hng1 := hng.symm
  clear he hf hB
  have c0 : (w.alloc (.cells (rcells' .none) 177)).cell? ⟨g, o, none⟩ = some (.int .i64 f.kd) := H0.out.f.at_ 0 (by omega)
  rw [hk] at c0
  go_enter Tryz.func72, Tryz.ntmps72
  go_upto_region 1 with fail
  generalize (w.alloc (.cells (rcells' .none) 177)) = W0 at *
  clear h0
  go_wp2_with fail
  (with_reducible refine (steal_any H0.out.e H0.out.f H0.out.bg hu hqc).mono ?_)
  rintro e W1 hline
  obtain ⟨v1, rfl, h1⟩ := H0.out.call hline
  have H1 := Lib.hid h1
  clear c0
  clear hline h1 H0
  generalize hR : (stealS s f).2.2 = R at *
  clear hR
  have r0 := H1.out.r.at_ 0
  have q0 := H1.out.r.free 0
  have r1 := H1.out.r.at_ 1
  have q1 := H1.out.r.free 1
  have r2 := H1.out.r.at_ 2
  have q2 := H1.out.r.free 2
  go_wp2
  refine bodyPost_ret (results_cell_row (P := Tryz.prog) Tryz.results72 _ _ w.heap.size 177 _ (0, 0) _ rfl (H1.out.res R) Tryz.underlying177 rfl (by kernel_rfl)) rfl ?_
  exact H1.out.done R
set_option maxRecDepth 100000 in
set_option maxHeartbeats 2000000 in
theorem leaf_4 (he : EnvF B w p a s es rs) (hf : FrameP w g o pre post f) (hB : B ≤ g) (hk : f.kd = 4)  :
    Calls Tryz.prog 72 #[.pointer (some ⟨p, 0, none⟩), .pointer (some ⟨g, o, none⟩)] w (Line B p g o pre post a (clearS s f).2.2 (clearS s f).1 es rs (clearS s f).2.1 w) := by
  have h0 := LSt.start he hf hB
  have H0 := Lib.hid h0
  have hng : g ≠ w.heap.size := by have := h0.lf; omega
  have hng1 := hng.symm
  clear he hf hB
  have c0 : (w.alloc (.cells (rcells' .none) 177)).cell? ⟨g, o, none⟩ = some (.int .i64 f.kd) := H0.out.f.at_ 0 (by omega)
  rw [hk] at c0
  go_enter Tryz.func72, Tryz.ntmps72
  go_upto_region 1 with fail
  generalize (w.alloc (.cells (rcells' .none) 177)) = W0 at *
  clear h0
  go_wp2_with fail
  (with_reducible refine (clear_any H0.out.e H0.out.f H0.out.bg).mono ?_)
  rintro e W1 hline
  obtain ⟨v1, rfl, h1⟩ := H0.out.call hline
  have H1 := Lib.hid h1
  clear c0
  clear hline h1 H0
  generalize hR : (clearS s f).2.2 = R at *
  clear hR
  have r0 := H1.out.r.at_ 0
  have q0 := H1.out.r.free 0
  have r1 := H1.out.r.at_ 1
  have q1 := H1.out.r.free 1
  have r2 := H1.out.r.at_ 2
  have q2 := H1.out.r.free 2
  go_wp2
  refine bodyPost_ret (results_cell_row (P := Tryz.prog) Tryz.results72 _ _ w.heap.size 177 _ (0, 0) _ rfl (H1.out.res R) Tryz.underlying177 rfl (by kernel_rfl)) rfl ?_
  exact H1.out.done R
set_option maxRecDepth 100000 in
set_option maxHeartbeats 2000000 in
theorem leaf_3 (he : EnvF B w p a s es rs) (hf : FrameP w g o pre post f) (hB : B ≤ g) (hk : f.kd = 3) :
    Calls Tryz.prog 72 #[.pointer (some ⟨p, 0, none⟩), .pointer (some ⟨g, o, none⟩)] w (Line B p g o pre post a ⟨true, 0, 0⟩ (s.go 4 f.fa (fun x => bits .or .u64 x (maskS f.fb))) es rs f w) := by
  have h0 := LSt.start he hf hB
  have H0 := Lib.hid h0
  have hng : g ≠ w.heap.size := by have := h0.lf; omega
  have hng1 := hng.symm
  clear he hf hB
  have c0 : (w.alloc (.cells (rcells' .none) 177)).cell? ⟨g, o, none⟩ = some (.int .i64 f.kd) := H0.out.f.at_ 0 (by omega)
  rw [hk] at c0
  go_enter Tryz.func72, Tryz.ntmps72
  go_upto_region 1 with fail
  generalize (w.alloc (.cells (rcells' .none) 177)) = W0 at *
  clear h0
  go_upto_region 9 with fail
  clear c0
  have H1 := Lib.hid H0.out.drew
  have d6 : W0.drew.cell? ⟨g, o + 6, none⟩ = some (.int .i64 f.fa) := H1.out.f.at_ 6 (by omega)
  have d7 : W0.drew.cell? ⟨g, o + 7, none⟩ = some (.int .i64 f.fb) := H1.out.f.at_ 7 (by omega)
  go_region_held3 (fun w' => w'.cell? ⟨g, o + 6, none⟩ = some (.int .i64 f.fa) ∧ w'.cell? ⟨g, o + 7, none⟩ = some (.int .i64 f.fb)) (go_keep)
    (first
      | (go_at_call 95
         refine (mask_any _ _).mono ?_
         rintro e W2 ⟨rfl, rfl⟩
         have H2 := H1
         skip)
      | (go_at_call 94
         refine (eor_any H2.out.e.m _ _).mono ?_
         rintro e W3 ⟨rfl, he, hf⟩
         have H3 := Lib.hid (H2.out.acc he hf)
         have bh6 : W3.cell? ⟨g, o + 6, none⟩ = some (.int .i64 f.fa) := H3.out.f.at_ 6 (by omega)
         have bh7 : W3.cell? ⟨g, o + 7, none⟩ = some (.int .i64 f.fb) := H3.out.f.at_ 7 (by omega)
         have s6 : W3.cell? ⟨g, o + 6, none⟩ = some (.int .i64 f.fa) := by rw []; exact bh6
         have s7 : W3.cell? ⟨g, o + 7, none⟩ = some (.int .i64 f.fb) := by rw []; exact bh7
         clear he hf))
  clear d6 d7 bh6 bh7 H0 H1 H2
  go_wp2_with fail
  (with_reducible refine (end_any _ _ _).mono ?_)
  rintro e W4 ⟨rfl, hb⟩
  have H4 := Lib.hid (H3.out.below hb)
  clear hb H3
  have r0 := H4.out.r.at_ 0
  have q0 := H4.out.r.free 0
  have r1 := H4.out.r.at_ 1
  have q1 := H4.out.r.free 1
  have r2 := H4.out.r.at_ 2
  have q2 := H4.out.r.free 2
  go_wp2
  refine bodyPost_ret (results_cell_row (P := Tryz.prog) Tryz.results72 _ _ w.heap.size 177 _ (0, 0) _ rfl (H4.out.res ⟨true, 0, 0⟩) Tryz.underlying177 rfl (by kernel_rfl)) rfl ?_
  exact H4.out.done ⟨true, 0, 0⟩
set_option maxRecDepth 100000 in
set_option maxHeartbeats 2000000 in
theorem leaf_7t (he : EnvF B w p a s es rs) (hf : FrameP w g o pre post f) (hB : B ≤ g) (hk : f.kd = 7) (hh : s.hit 1 0 = true) :
    Calls Tryz.prog 72 #[.pointer (some ⟨p, 0, none⟩), .pointer (some ⟨g, o, none⟩)] w (Line B p g o pre post a ⟨true, 1, 0⟩ (s.go 3 1 (fun x => if x = 0 then IntKind.u64.wrap (wrap64 (f.fa + 1)) else x)) es rs f w) := by
  have h0 := LSt.start he hf hB
  have H0 := Lib.hid h0
  have hng : g ≠ w.heap.size := by have := h0.lf; omega
  have hng1 := hng.symm
  clear he hf hB
  have HH := Lib.hid hh
  clear hh
  have c0 : (w.alloc (.cells (rcells' .none) 177)).cell? ⟨g, o, none⟩ = some (.int .i64 f.kd) := H0.out.f.at_ 0 (by omega)
  have c6 : (w.alloc (.cells (rcells' .none) 177)).cell? ⟨g, o + 6, none⟩ = some (.int .i64 f.fa) := H0.out.f.at_ 6 (by omega)
  rw [hk] at c0
  go_enter Tryz.func72, Tryz.ntmps72
  go_upto_region 1 with fail
  generalize (w.alloc (.cells (rcells' .none) 177)) = W0 at *
  clear h0
  go_wp2_with fail
  (with_reducible refine (ecas_any H0.out.e.m _ _ _).mono ?_)
  rintro e W1 ⟨rfl, he, hf⟩
  have H1 := Lib.hid (H0.out.acc he hf)
  clear c0 c6
  clear he hf H0
  rw [HH.out]
  go_wp2_with fail
  (with_reducible refine (end_any _ _ _).mono ?_)
  rintro e W2 ⟨rfl, hb⟩
  have H2 := Lib.hid (H1.out.below hb)
  clear hb H1
  have r0 := H2.out.r.at_ 0
  have q0 := H2.out.r.free 0
  have r1 := H2.out.r.at_ 1
  have q1 := H2.out.r.free 1
  have r2 := H2.out.r.at_ 2
  have q2 := H2.out.r.free 2
  go_wp2
  refine bodyPost_ret (results_cell_row (P := Tryz.prog) Tryz.results72 _ _ w.heap.size 177 _ (0, 0) _ rfl (H2.out.res ⟨true, 1, 0⟩) Tryz.underlying177 rfl (by kernel_rfl)) rfl ?_
  exact H2.out.done ⟨true, 1, 0⟩
set_option maxRecDepth 100000 in
set_option maxHeartbeats 2000000 in
theorem leaf_7f (he : EnvF B w p a s es rs) (hf : FrameP w g o pre post f) (hB : B ≤ g) (hk : f.kd = 7) (hh : s.hit 1 0 = false) :
    Calls Tryz.prog 72 #[.pointer (some ⟨p, 0, none⟩), .pointer (some ⟨g, o, none⟩)] w (Line B p g o pre post a .none (s.go 3 1 (fun x => if x = 0 then IntKind.u64.wrap (wrap64 (f.fa + 1)) else x)) es rs f w) := by
  have h0 := LSt.start he hf hB
  have H0 := Lib.hid h0
  have hng : g ≠ w.heap.size := by have := h0.lf; omega
  have hng1 := hng.symm
  clear he hf hB
  have HH := Lib.hid hh
  clear hh
  have c0 : (w.alloc (.cells (rcells' .none) 177)).cell? ⟨g, o, none⟩ = some (.int .i64 f.kd) := H0.out.f.at_ 0 (by omega)
  have c6 : (w.alloc (.cells (rcells' .none) 177)).cell? ⟨g, o + 6, none⟩ = some (.int .i64 f.fa) := H0.out.f.at_ 6 (by omega)
  rw [hk] at c0
  go_enter Tryz.func72, Tryz.ntmps72
  go_upto_region 1 with fail
  generalize (w.alloc (.cells (rcells' .none) 177)) = W0 at *
  clear h0
  go_wp2_with fail
  (with_reducible refine (ecas_any H0.out.e.m _ _ _).mono ?_)
  rintro e W1 ⟨rfl, he, hf⟩
  have H1 := Lib.hid (H0.out.acc he hf)
  clear c0 c6
  clear he hf H0
  rw [HH.out]
  have c0 : W1.cell? ⟨g, o, none⟩ = some (.int .i64 f.kd) := H1.out.f.at_ 0 (by omega)
  have r0 := H1.out.r.at_ 0
  have q0 := H1.out.r.free 0
  have r1 := H1.out.r.at_ 1
  have q1 := H1.out.r.free 1
  have r2 := H1.out.r.at_ 2
  have q2 := H1.out.r.free 2
  rw [hk] at c0
  go_wp2
  refine bodyPost_ret (results_cell_row (P := Tryz.prog) Tryz.results72 _ _ w.heap.size 177 _ (0, 0) _ rfl (H1.out.res .none) Tryz.underlying177 rfl (by kernel_rfl)) rfl ?_
  exact H1.out.done .none
set_option maxRecDepth 100000 in
set_option maxHeartbeats 2000000 in
theorem leaf_8t (he : EnvF B w p a s es rs) (hf : FrameP w g o pre post f) (hB : B ≤ g) (hk : f.kd = 8) (hh : s.hit 1 0 = true) :
    Calls Tryz.prog 72 #[.pointer (some ⟨p, 0, none⟩), .pointer (some ⟨g, o, none⟩)] w (Line B p g o pre post a ⟨true, 1, 0⟩ (s.go 3 1 (fun x => if x = 0 then IntKind.u64.wrap (wrap64 (f.fa + 1)) else x)) es rs f w) := by
  have h0 := LSt.start he hf hB
  have H0 := Lib.hid h0
  have hng : g ≠ w.heap.size := by have := h0.lf; omega
  have hng1 := hng.symm
  clear he hf hB
  have HH := Lib.hid hh
  clear hh
  have c0 : (w.alloc (.cells (rcells' .none) 177)).cell? ⟨g, o, none⟩ = some (.int .i64 f.kd) := H0.out.f.at_ 0 (by omega)
  have c6 : (w.alloc (.cells (rcells' .none) 177)).cell? ⟨g, o + 6, none⟩ = some (.int .i64 f.fa) := H0.out.f.at_ 6 (by omega)
  rw [hk] at c0
  go_enter Tryz.func72, Tryz.ntmps72
  go_upto_region 1 with fail
  generalize (w.alloc (.cells (rcells' .none) 177)) = W0 at *
  clear h0
  go_wp2_with fail
  (with_reducible refine (ecas_any H0.out.e.m _ _ _).mono ?_)
  rintro e W1 ⟨rfl, he, hf⟩
  have H1 := Lib.hid (H0.out.acc he hf)
  clear c0 c6
  clear he hf H0
  rw [HH.out]
  go_wp2_with fail
  (with_reducible refine (end_any _ _ _).mono ?_)
  rintro e W2 ⟨rfl, hb⟩
  have H2 := Lib.hid (H1.out.below hb)
  clear hb H1
  have r0 := H2.out.r.at_ 0
  have q0 := H2.out.r.free 0
  have r1 := H2.out.r.at_ 1
  have q1 := H2.out.r.free 1
  have r2 := H2.out.r.at_ 2
  have q2 := H2.out.r.free 2
  go_wp2
  refine bodyPost_ret (results_cell_row (P := Tryz.prog) Tryz.results72 _ _ w.heap.size 177 _ (0, 0) _ rfl (H2.out.res ⟨true, 1, 0⟩) Tryz.underlying177 rfl (by kernel_rfl)) rfl ?_
  exact H2.out.done ⟨true, 1, 0⟩
set_option maxRecDepth 100000 in
set_option maxHeartbeats 2000000 in
theorem leaf_8f (he : EnvF B w p a s es rs) (hf : FrameP w g o pre post f) (hB : B ≤ g) (hk : f.kd = 8) (hh : s.hit 1 0 = false) :
    Calls Tryz.prog 72 #[.pointer (some ⟨p, 0, none⟩), .pointer (some ⟨g, o, none⟩)] w (Line B p g o pre post a ⟨true, 5, 0⟩ (s.go 3 1 (fun x => if x = 0 then IntKind.u64.wrap (wrap64 (f.fa + 1)) else x)) es rs f w) := by
  have h0 := LSt.start he hf hB
  have H0 := Lib.hid h0
  have hng : g ≠ w.heap.size := by have := h0.lf; omega
  have hng1 := hng.symm
  clear he hf hB
  have HH := Lib.hid hh
  clear hh
  have c0 : (w.alloc (.cells (rcells' .none) 177)).cell? ⟨g, o, none⟩ = some (.int .i64 f.kd) := H0.out.f.at_ 0 (by omega)
  have c6 : (w.alloc (.cells (rcells' .none) 177)).cell? ⟨g, o + 6, none⟩ = some (.int .i64 f.fa) := H0.out.f.at_ 6 (by omega)
  rw [hk] at c0
  go_enter Tryz.func72, Tryz.ntmps72
  go_upto_region 1 with fail
  generalize (w.alloc (.cells (rcells' .none) 177)) = W0 at *
  clear h0
  go_wp2_with fail
  (with_reducible refine (ecas_any H0.out.e.m _ _ _).mono ?_)
  rintro e W1 ⟨rfl, he, hf⟩
  have H1 := Lib.hid (H0.out.acc he hf)
  clear c0 c6
  clear he hf H0
  rw [HH.out]
  have c0 : W1.cell? ⟨g, o, none⟩ = some (.int .i64 f.kd) := H1.out.f.at_ 0 (by omega)
  rw [hk] at c0
  go_wp2_with fail
  (with_reducible refine (end_any _ _ _).mono ?_)
  rintro e W2 ⟨rfl, hb⟩
  have H2 := Lib.hid (H1.out.below hb)
  clear c0
  clear hb H1
  have r0 := H2.out.r.at_ 0
  have q0 := H2.out.r.free 0
  have r1 := H2.out.r.at_ 1
  have q1 := H2.out.r.free 1
  have r2 := H2.out.r.at_ 2
  have q2 := H2.out.r.free 2
  go_wp2
  refine bodyPost_ret (results_cell_row (P := Tryz.prog) Tryz.results72 _ _ w.heap.size 177 _ (0, 0) _ rfl (H2.out.res ⟨true, 5, 0⟩) Tryz.underlying177 rfl (by kernel_rfl)) rfl ?_
  exact H2.out.done ⟨true, 5, 0⟩
set_option maxRecDepth 100000 in
set_option maxHeartbeats 2000000 in
theorem leaf_9 (he : EnvF B w p a s es rs) (hf : FrameP w g o pre post f) (hB : B ≤ g) (hk : f.kd = 9) :
    Calls Tryz.prog 72 #[.pointer (some ⟨p, 0, none⟩), .pointer (some ⟨g, o, none⟩)] w (Line B p g o pre post a ⟨true, 0, 0⟩ (s.go 2 1 (fun _ => 0)) es rs f w) := by
  have h0 := LSt.start he hf hB
  have H0 := Lib.hid h0
  have hng : g ≠ w.heap.size := by have := h0.lf; omega
  have hng1 := hng.symm
  clear he hf hB
  have c0 : (w.alloc (.cells (rcells' .none) 177)).cell? ⟨g, o, none⟩ = some (.int .i64 f.kd) := H0.out.f.at_ 0 (by omega)
  rw [hk] at c0
  go_enter Tryz.func72, Tryz.ntmps72
  go_upto_region 1 with fail
  generalize (w.alloc (.cells (rcells' .none) 177)) = W0 at *
  clear h0
  go_wp2_with fail
  (with_reducible refine (estore_any H0.out.e.m _ _).mono ?_)
  rintro e W1 ⟨rfl, he, hf⟩
  have H1 := Lib.hid (H0.out.acc he hf)
  clear c0
  clear he hf H0
  go_wp2_with fail
  (with_reducible refine (end_any _ _ _).mono ?_)
  rintro e W2 ⟨rfl, hb⟩
  have H2 := Lib.hid (H1.out.below hb)
  clear hb H1
  have r0 := H2.out.r.at_ 0
  have q0 := H2.out.r.free 0
  have r1 := H2.out.r.at_ 1
  have q1 := H2.out.r.free 1
  have r2 := H2.out.r.at_ 2
  have q2 := H2.out.r.free 2
  go_wp2
  refine bodyPost_ret (results_cell_row (P := Tryz.prog) Tryz.results72 _ _ w.heap.size 177 _ (0, 0) _ rfl (H2.out.res ⟨true, 0, 0⟩) Tryz.underlying177 rfl (by kernel_rfl)) rfl ?_
  exact H2.out.done ⟨true, 0, 0⟩
/-- The kinds of frames that need no configuration. -/
def bareK (k : Int) : Prop := k = 0 ∨ k = 1 ∨ k = 2 ∨ k = 3 ∨ k = 4 ∨ k = 7 ∨ k = 8 ∨ k = 9
theorem bareK.leaf {k : Int} (h : bareK k) : leafK k := by
  rcases h with rfl | rfl | rfl | rfl | rfl | rfl | rfl | rfl <;> exact ⟨rfl, rfl, rfl, rfl, rfl, rfl, rfl, rfl, rfl, rfl⟩
/-- A line of such a frame. -/
def leafS (s : St) (f : Fra) : St × Fra × Res :=
  if f.kd = 0 then pushS s f else if f.kd = 1 then popS s f else if f.kd = 2 then stealS s f
  else if f.kd = 3 then (s.go 4 f.fa (fun x => bits .or .u64 x (maskS f.fb)), f, ⟨true, 0, 0⟩)
  else if f.kd = 4 then clearS s f
  else if f.kd = 9 then (s.go 2 1 (fun _ => 0), f, ⟨true, 0, 0⟩)
  else (s.go 3 1 (fun x => if x = 0 then IntKind.u64.wrap (wrap64 (f.fa + 1)) else x), f, if s.hit 1 0 then ⟨true, 1, 0⟩ else if f.kd = 8 then ⟨true, 5, 0⟩ else .none)
theorem leaf_any (he : EnvF B w p a s es rs) (hf : FrameP w g o pre post f) (hB : B ≤ g) (hk : bareK f.kd) (hu : 0 ≤ f.fu) (hv : 0 ≤ f.fv) (hqc : f.qc ≤ 9223372036854775807) :
    Calls Tryz.prog 72 #[.pointer (some ⟨p, 0, none⟩), .pointer (some ⟨g, o, none⟩)] w (Line B p g o pre post a (leafS s f).2.2 (leafS s f).1 es rs (leafS s f).2.1 w) := by
  unfold leafS
  rcases hk with h | h | h | h | h | h | h | h
  · simpa [h] using leaf_0 he hf hB h hu hqc
  · simpa [h] using leaf_1 he hf hB h hqc
  · simpa [h] using leaf_2 he hf hB h hv hqc
  · simpa [h] using leaf_3 he hf hB h
  · simpa [h] using leaf_4 he hf hB h
  · cases hh : s.hit 1 0 with
    | true => simpa [h, hh] using leaf_7t he hf hB h hh
    | false => simpa [h, hh] using leaf_7f he hf hB h hh
  · cases hh : s.hit 1 0 with
    | true => simpa [h, hh] using leaf_8t he hf hB h hh
    | false => simpa [h, hh] using leaf_8f he hf hB h hh
  · simpa [h] using leaf_9 he hf hB h
end
end Go.Proofs.YtllllbepnnpeeaaGreat
