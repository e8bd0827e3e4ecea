/-
  Package injector: the remover, line by line. (Written by wip/gen_inj.py.)
-/
import Derived.Test.YtanbjdlaolgepaaGreatInjB
import Derived.Test.YtanbjdlaolgepaaGreatMgBJ
namespace Go.Proofs.YtanbjdlaolgepaaGreat
open Go Go.RowKit Go.Shelf
set_option linter.unusedSimpArgs false
set_option linter.unusedVariables false


/-- The cells of a remover behind its lines. -/
abbrev rpost (f : Fra) : List Value := [.int .i64 f.fn, .int .i64 f.fi, .int .i64 f.fa, .int .i64 f.fj, .int .u64 f.fu, .int .u64 f.fv, .int .u64 f.fw]
/-- What line 4 gives: an event is emitted. -/
def ILineE (B : Nat) (w : World) (p m k g cap : Nat) (s' : St) (t d : Int) (hd : List Value) (rv ev : Value) (es' : List Ev) (q : Nat) (ty : TypeId) (post : Fra → List Value) (f' : Fra) (r : Res) (e : Ending) (w' : World) : Prop :=
  ∃ ev', e = .returned (.bool r.dn) ∧ PE w' p m k g cap s' t d hd rv ev' ∧ OwnE w' B ev' es' ∧ (∀ x, ev'.ownBlock = some x → ev.ownBlock = some x ∨ w.heap.size ≤ x) ∧ LB w' q ty (post f') (if r.dn then { f' with ln := 0 } else f') r.cd r.vl ∧ Fr (p :: m :: g :: q :: ev.ownBlock.toList) w w'
section
variable {w : World} {p m k g cap : Nat} {s : St} {t d : Int} {hd : List Value} {rv ev : Value} {q : Nat} {f : Fra} {c : Cfg}
theorem one_acc {ty : TypeId} {cs : Array Value} (h : Blk w q ty cs) (ht : ty ≠ 163) : ∀ j, j ∈ [q] → ∃ t cs, Blk w j t cs ∧ t ≠ 163 := fun j hj => by
  obtain rfl := List.mem_singleton.1 hj
  exact ⟨_, _, h, ht⟩
theorem rem_accs {ty : TypeId} {post : List Value} {cd vl : Int} (hp : PE w p m k g cap s t d hd rv ev) (h : LB w q ty post f cd vl) (ht : ty ≠ 163) : ∀ j, j ∈ [m, g, q] → ∃ t cs, Blk w j t cs ∧ t ≠ 163 := by
  obtain ⟨cur, hg, _⟩ := hp.mem.row.blk
  intro j hj
  simp only [List.mem_cons, List.not_mem_nil, or_false] at hj
  rcases hj with rfl | rfl | rfl
  · exact ⟨_, _, hp.mem.blk, by decide⟩
  · exact ⟨_, _, hg, by decide⟩
  · exact ⟨_, _, h.blk, ht⟩

set_option maxRecDepth 100000 in
set_option maxHeartbeats 4000000 in
theorem rtask_any (h : LB w q 109 (rpost f) f 0 0) (hu : uw f.fu) :
    Calls Tryz.prog 180 #[.pointer (some ⟨q, 0, none⟩)] w fun e w' => e = .returned (.int .i64 (f.fu % 65536)) ∧ w = w' := by
  have c7 : w.cell? ⟨q, 7, none⟩ = some (.int .u64 f.fu) := h.blk.at_ 7
  obtain ⟨U, hU⟩ : ∃ U : Nat, f.fu = (U : Int) := ⟨f.fu.toNat, by have := hu.1; omega⟩
  have hb := hu.2
  rw [hU] at c7 hb ⊢
  have HP := Lib.hid (punpack_any U (by omega) w)
  clear h hu hU hb
  go_enter Tryz.func180, Tryz.ntmps180
  go_wp2_with fail
  (with_reducible refine HP.out.mono ?_)
  rintro e wx ⟨rfl, rfl⟩
  go_wp2
  go_ret
  exact ⟨rfl, rfl⟩

set_option maxRecDepth 100000 in
set_option maxHeartbeats 4000000 in
theorem rfirst_any (h : LB w q 109 (rpost f) f 0 0) :
    Calls Tryz.prog 182 #[.pointer (some ⟨q, 0, none⟩)] w fun e w' => e = .returned (.int .i64 (wrap64 (wrap64 (2 * f.fi) + 1))) ∧ w = w' := by
  have c4 : w.cell? ⟨q, 4, none⟩ = some (.int .i64 f.fi) := h.blk.at_ 4
  clear h
  go_enter Tryz.func182, Tryz.ntmps182
  go_wp2
  go_ret
  exact ⟨rfl, rfl⟩

set_option maxRecDepth 100000 in
set_option maxHeartbeats 4000000 in
theorem rremains_y (h : LB w q 109 (rpost f) f 0 0) (j : Int) (hc : j < wrap64 (f.fn - 1)) :
    Calls Tryz.prog 183 #[.pointer (some ⟨q, 0, none⟩), .int .i64 j] w fun e w' => e = .returned (.bool true) ∧ w = w' := by
  have c3 : w.cell? ⟨q, 3, none⟩ = some (.int .i64 f.fn) := h.blk.at_ 3
  have hd0 : decide (j < wrap64 (f.fn - 1)) = true := by simpa using hc
  clear h hc
  go_enter Tryz.func183, Tryz.ntmps183
  go_wp2
  go_ret
  exact ⟨rfl, rfl⟩

set_option maxRecDepth 100000 in
set_option maxHeartbeats 4000000 in
theorem rremains_n (h : LB w q 109 (rpost f) f 0 0) (j : Int) (hc : ¬ j < wrap64 (f.fn - 1)) :
    Calls Tryz.prog 183 #[.pointer (some ⟨q, 0, none⟩), .int .i64 j] w fun e w' => e = .returned (.bool false) ∧ w = w' := by
  have c3 : w.cell? ⟨q, 3, none⟩ = some (.int .i64 f.fn) := h.blk.at_ 3
  have hd0 : decide (j < wrap64 (f.fn - 1)) = false := by simpa using hc
  clear h hc
  go_enter Tryz.func183, Tryz.ntmps183
  go_wp2
  go_ret
  exact ⟨rfl, rfl⟩

set_option maxRecDepth 100000 in
set_option maxHeartbeats 4000000 in
theorem rsink_y (h : LB w q 109 (rpost f) f 0 0) (hc : wrap64 (wrap64 (2 * f.fi) + 1) < wrap64 (f.fn - 1)) :
    Calls Tryz.prog 181 #[.pointer (some ⟨q, 0, none⟩)] w fun e w' => e = .returned (.bool false) ∧ LB w' q 109 (rpost f) { f with ln := 5 } 0 0 ∧ Fr [q] w w' := by
  have H := Lib.hid h
  have HC := Lib.hid hc
  clear h hc
  go_enter Tryz.func181, Tryz.ntmps181
  go_wp2_with fail
  (with_reducible refine (rfirst_any H.out).mono ?_)
  rintro e wx ⟨rfl, rfl⟩
  go_wp2_with fail
  (with_reducible refine (rremains_y H.out _ HC.out).mono ?_)
  rintro e wx ⟨rfl, rfl⟩
  go_wp2_with fail
  (with_reducible refine (lnext_any H.out 5).mono ?_)
  rintro e w1 ⟨rfl, hb, hf⟩
  go_wp2
  go_ret
  exact ⟨rfl, hb, hf⟩

set_option maxRecDepth 100000 in
set_option maxHeartbeats 4000000 in
theorem rsink_n (h : LB w q 109 (rpost f) f 0 0) (hc : ¬ wrap64 (wrap64 (2 * f.fi) + 1) < wrap64 (f.fn - 1)) :
    Calls Tryz.prog 181 #[.pointer (some ⟨q, 0, none⟩)] w fun e w' => e = .returned (.bool false) ∧ LB w' q 109 (rpost f) { f with ln := 8 } 0 0 ∧ Fr [q] w w' := by
  have H := Lib.hid h
  have HC := Lib.hid hc
  clear h hc
  go_enter Tryz.func181, Tryz.ntmps181
  go_wp2_with fail
  (with_reducible refine (rfirst_any H.out).mono ?_)
  rintro e wx ⟨rfl, rfl⟩
  go_wp2_with fail
  (with_reducible refine (rremains_n H.out _ (Int.not_lt.2 HC.out)).mono ?_)
  rintro e wx ⟨rfl, rfl⟩
  go_wp2_with fail
  (with_reducible refine (lnext_any H.out 8).mono ?_)
  rintro e w1 ⟨rfl, hb, hf⟩
  go_wp2
  go_ret
  exact ⟨rfl, hb, hf⟩

set_option maxRecDepth 100000 in
set_option maxHeartbeats 4000000 in
theorem rchoose_y (h : LB w q 109 (rpost f) f 0 0) (hc : f.fw < f.fv) :
    Calls Tryz.prog 184 #[.pointer (some ⟨q, 0, none⟩)] w fun e w' => e = .returned (.bool false) ∧ LB w' q 109 (rpost f) { f with ln := 7 } 0 0 ∧ Fr [q] w w' := by
  have c8 : w.cell? ⟨q, 8, none⟩ = some (.int .u64 f.fv) := h.blk.at_ 8
  have c9 : w.cell? ⟨q, 9, none⟩ = some (.int .u64 f.fw) := h.blk.at_ 9
  have hd0 : decide (f.fw < f.fv) = true := by simpa using hc
  have H := Lib.hid h
  clear h hc
  go_enter Tryz.func184, Tryz.ntmps184
  go_wp2_with fail
  go_quiet (fail)
  have H1 := Lib.hid (H.out.drewN nq)
  have F1 := Lib.hid ((Fr.refl [q] w).drewN nq)
  clear c8 c9
  generalize w.drewN nq = W1 at *
  go_wp2_with fail
  (with_reducible refine (lnext_any H1.out 7).mono ?_)
  rintro e w1 ⟨rfl, hb, hf⟩
  go_wp2
  go_ret
  exact ⟨rfl, hb, F1.out.trans hf⟩

set_option maxRecDepth 100000 in
set_option maxHeartbeats 4000000 in
theorem rchoose_n (h : LB w q 109 (rpost f) f 0 0) (hc : ¬ f.fw < f.fv) :
    Calls Tryz.prog 184 #[.pointer (some ⟨q, 0, none⟩)] w fun e w' => e = .returned (.bool false) ∧ LB w' q 109 (rpost f) { f with ln := 8 } 0 0 ∧ Fr [q] w w' := by
  have c8 : w.cell? ⟨q, 8, none⟩ = some (.int .u64 f.fv) := h.blk.at_ 8
  have c9 : w.cell? ⟨q, 9, none⟩ = some (.int .u64 f.fw) := h.blk.at_ 9
  have hd0 : decide (f.fw < f.fv) = false := by simpa using hc
  have H := Lib.hid h
  clear h hc
  go_enter Tryz.func184, Tryz.ntmps184
  go_wp2_with fail
  go_quiet (fail)
  have H1 := Lib.hid (H.out.drewN nq)
  have F1 := Lib.hid ((Fr.refl [q] w).drewN nq)
  clear c8 c9
  generalize w.drewN nq = W1 at *
  go_wp2_with fail
  (with_reducible refine (lnext_any H1.out 8).mono ?_)
  rintro e w1 ⟨rfl, hb, hf⟩
  go_wp2
  go_ret
  exact ⟨rfl, hb, F1.out.trans hf⟩

set_option maxRecDepth 100000 in
set_option maxHeartbeats 4000000 in
theorem remr_1e (hin : CfgIn c) (hp : PE w p m k g cap s t d hd rv ev) (hl : LayHd hd c) (h : LB w q 109 (rpost f) f 0 0) (hl1 : f.ln = 1) (hc : wrap64 (s.old 2) ≤ 0) :
    Calls Tryz.prog 173 #[.pointer (some ⟨q, 0, none⟩), .pointer (some ⟨p, 0, none⟩)] w (ILine w p m k g cap (s.go 1 2 id) t d hd rv ev q 109 rpost { f with fn := wrap64 (s.old 2) } ⟨true, 2, 0⟩) := by
  have P0 := Lib.hid hp
  have B0 := Lib.hid h
  have F0 := Lib.hid (Fr.refl [m, g, q] w)
  have HL := Lib.hid hl
  clear hp h hl
  have HIN := Lib.hid hin
  clear hin
  have hc0 := lline_any B0.out
  rw [hl1] at hc0
  have HC0 := Lib.hid hc0
  clear hc0
  go_enter Tryz.func173, Tryz.ntmps173
  go_wp2_with fail
  (with_reducible refine HC0.out.mono ?_)
  rintro e wx ⟨rfl, rfl⟩
  clear HC0
  have hd0 : decide (wrap64 (s.old 2) ≤ 0) = true := by simpa using hc
  clear hc
  go_wp2_with fail
  (with_reducible refine (hloadSize_any (f := f) P0.out HL.out B0.out).mono ?_)
  rintro e W1 ⟨rfl, hp, hb, hf⟩
  have P1 := Lib.hid hp
  have B1 := Lib.hid hb
  have F1 := Lib.hid (F0.out.trans hf)
  clear hp hb hf
  clear P0 B0 F0
  have c3 : W1.cell? ⟨q, 3, none⟩ = some (.int .i64 (wrap64 (s.old 2))) := B1.out.blk.at_ 3
  go_wp2_with fail
  (with_reducible refine (lend_any B1.out 2 0).mono ?_)
  rintro e W2 ⟨rfl, hb, hf⟩
  have P2 := Lib.hid (P1.out.lown B1.out hf)
  have B2 := Lib.hid hb
  have F2 := Lib.hid (F1.out.trans (hf.mono (by simp)))
  clear hb hf
  clear c3
  clear P1 B1 F1
  go_wp2
  go_ret
  exact ⟨rfl, P2.out, B2.out, F2.out⟩
set_option maxRecDepth 100000 in
set_option maxHeartbeats 4000000 in
theorem remr_1 (hin : CfgIn c) (hp : PE w p m k g cap s t d hd rv ev) (hl : LayHd hd c) (h : LB w q 109 (rpost f) f 0 0) (hl1 : f.ln = 1) (hc : ¬ wrap64 (s.old 2) ≤ 0) :
    Calls Tryz.prog 173 #[.pointer (some ⟨q, 0, none⟩), .pointer (some ⟨p, 0, none⟩)] w (ILine w p m k g cap (s.go 1 2 id) t d hd rv ev q 109 rpost { f with fn := wrap64 (s.old 2), ln := 2 } .none) := by
  have P0 := Lib.hid hp
  have B0 := Lib.hid h
  have F0 := Lib.hid (Fr.refl [m, g, q] w)
  have HL := Lib.hid hl
  clear hp h hl
  have HIN := Lib.hid hin
  clear hin
  have hc0 := lline_any B0.out
  rw [hl1] at hc0
  have HC0 := Lib.hid hc0
  clear hc0
  go_enter Tryz.func173, Tryz.ntmps173
  go_wp2_with fail
  (with_reducible refine HC0.out.mono ?_)
  rintro e wx ⟨rfl, rfl⟩
  clear HC0
  have hd0 : decide (wrap64 (s.old 2) ≤ 0) = false := by simpa using hc
  clear hc
  go_wp2_with fail
  (with_reducible refine (hloadSize_any (f := f) P0.out HL.out B0.out).mono ?_)
  rintro e W1 ⟨rfl, hp, hb, hf⟩
  have P1 := Lib.hid hp
  have B1 := Lib.hid hb
  have F1 := Lib.hid (F0.out.trans hf)
  clear hp hb hf
  clear P0 B0 F0
  have c3 : W1.cell? ⟨q, 3, none⟩ = some (.int .i64 (wrap64 (s.old 2))) := B1.out.blk.at_ 3
  go_wp2_with fail
  (with_reducible refine (lnext_any B1.out 2).mono ?_)
  rintro e W2 ⟨rfl, hb, hf⟩
  have P2 := Lib.hid (P1.out.lown B1.out hf)
  have B2 := Lib.hid hb
  have F2 := Lib.hid (F1.out.trans (hf.mono (by simp)))
  clear hb hf
  clear c3
  clear P1 B1 F1
  go_wp2
  go_ret
  exact ⟨rfl, P2.out, B2.out, F2.out⟩
set_option maxRecDepth 100000 in
set_option maxHeartbeats 4000000 in
theorem remr_2 (hin : CfgIn c) (hp : PE w p m k g cap s t d hd rv ev) (hl : LayHd hd c) (h : LB w q 109 (rpost f) f 0 0) (hl1 : f.ln = 2)  :
    Calls Tryz.prog 173 #[.pointer (some ⟨q, 0, none⟩), .pointer (some ⟨p, 0, none⟩)] w (ILine w p m k g cap (s.go 1 (rSlot c 0) id) t d hd rv ev q 109 rpost { f with fu := s.old (rSlot c 0), ln := 3 } .none) := by
  have P0 := Lib.hid hp
  have B0 := Lib.hid h
  have F0 := Lib.hid (Fr.refl [m, g, q] w)
  have HL := Lib.hid hl
  clear hp h hl
  have HIN := Lib.hid hin
  clear hin
  have hc0 := lline_any B0.out
  rw [hl1] at hc0
  have HC0 := Lib.hid hc0
  clear hc0
  go_enter Tryz.func173, Tryz.ntmps173
  go_wp2_with fail
  (with_reducible refine HC0.out.mono ?_)
  rintro e wx ⟨rfl, rfl⟩
  clear HC0
  go_wp2_with fail
  (with_reducible refine (hload_any (f := f) P0.out HL.out B0.out HIN.out 0).mono ?_)
  rintro e W1 ⟨rfl, hp, hb, hf⟩
  have P1 := Lib.hid hp
  have B1 := Lib.hid hb
  have F1 := Lib.hid (F0.out.trans hf)
  clear hp hb hf
  clear P0 B0 F0
  have c7 : W1.cell? ⟨q, 7, none⟩ = some (.int .u64 f.fu) := B1.out.blk.at_ 7
  have k7 := B1.out.blk.free 7
  have B2 := Lib.hid (B1.out.putg 7 (.int .u64 (s.old (rSlot c 0))) (rpost { f with fu := s.old (rSlot c 0) }) { f with fu := s.old (rSlot c 0) } rfl)
  have P2 := Lib.hid (P1.out.lown B1.out ((Fr.refl [q] W1).setCell (p := ⟨q, 7, none⟩) (by simp) (.int .u64 (s.old (rSlot c 0)))))
  have F2 := Lib.hid (F1.out.trans (((Fr.refl [q] W1).setCell (p := ⟨q, 7, none⟩) (by simp) (.int .u64 (s.old (rSlot c 0)))).mono (by simp)))
  go_wp2_with fail
  clear c7 k7
  clear P1 B1 F1
  generalize (W1.setCell ⟨q, 7, none⟩ (.int .u64 (s.old (rSlot c 0)))) = W2 at *
  go_wp2_with fail
  (with_reducible refine (lnext_any B2.out 3).mono ?_)
  rintro e W3 ⟨rfl, hb, hf⟩
  have P3 := Lib.hid (P2.out.lown B2.out hf)
  have B3 := Lib.hid hb
  have F3 := Lib.hid (F2.out.trans (hf.mono (by simp)))
  clear hb hf
  clear P2 B2 F2
  go_wp2
  go_ret
  exact ⟨rfl, P3.out, B3.out, F3.out⟩
set_option maxRecDepth 100000 in
set_option maxHeartbeats 4000000 in
theorem remr_3 (hin : CfgIn c) (hp : PE w p m k g cap s t d hd rv ev) (hl : LayHd hd c) (h : LB w q 109 (rpost f) f 0 0) (hl1 : f.ln = 3)  :
    Calls Tryz.prog 173 #[.pointer (some ⟨q, 0, none⟩), .pointer (some ⟨p, 0, none⟩)] w (ILine w p m k g cap (s.go 1 (rSlot c (wrap64 (f.fn - 1))) id) t d hd rv ev q 109 rpost { f with fv := s.old (rSlot c (wrap64 (f.fn - 1))), ln := 4 } .none) := by
  have P0 := Lib.hid hp
  have B0 := Lib.hid h
  have F0 := Lib.hid (Fr.refl [m, g, q] w)
  have HL := Lib.hid hl
  clear hp h hl
  have HIN := Lib.hid hin
  clear hin
  have hc0 := lline_any B0.out
  rw [hl1] at hc0
  have HC0 := Lib.hid hc0
  clear hc0
  go_enter Tryz.func173, Tryz.ntmps173
  go_wp2_with fail
  (with_reducible refine HC0.out.mono ?_)
  rintro e wx ⟨rfl, rfl⟩
  clear HC0
  go_wp2_with fail
  have P1 := Lib.hid (P0.out.drewN 1)
  have B1 := Lib.hid B0.out.drew
  have F1 := Lib.hid F0.out.drew
  clear P0 B0 F0
  have d20 : w.drew.cell? ⟨p, 20, none⟩ = some (.pointer (some ⟨m, 0, none⟩)) := P1.out.at20
  have d3 : w.drew.cell? ⟨q, 3, none⟩ = some (.int .i64 f.fn) := B1.out.blk.at_ 3
  go_region_held3 (fun w' => w'.cell? ⟨p, 20, none⟩ = some (.pointer (some ⟨m, 0, none⟩)) ∧ w'.cell? ⟨q, 3, none⟩ = some (.int .i64 f.fn)) ((first | exact ⟨v20, v3⟩ | exact ⟨a20, a3⟩ | exact ⟨d20, d3⟩ | go_keep))
    ((go_at_call 177
      refine (hload_any (f := f) P1.out HL.out B1.out HIN.out _).mono ?_
      rintro e W2 ⟨rfl, hp, hb, hf⟩
      have P2 := Lib.hid hp
      have B2 := Lib.hid hb
      have F2 := Lib.hid (F1.out.trans hf)
      clear hp hb hf
      have a20 : W2.cell? ⟨p, 20, none⟩ = some (.pointer (some ⟨m, 0, none⟩)) := P2.out.at20
      have a3 : W2.cell? ⟨q, 3, none⟩ = some (.int .i64 f.fn) := B2.out.blk.at_ 3
      have cs8 : W2.cell? ⟨q, 8, none⟩ = some (.int .u64 f.fv) := B2.out.blk.at_ 8
      have ks8 := B2.out.blk.free 8
      have B3 := Lib.hid (B2.out.putg 8 (.int .u64 (s.old (rSlot c (IntKind.i64.wrap (f.fn - 1))))) (rpost { f with fv := s.old (rSlot c (IntKind.i64.wrap (f.fn - 1))) }) { f with fv := s.old (rSlot c (IntKind.i64.wrap (f.fn - 1))) } rfl)
      have P3 := Lib.hid (P2.out.lown B2.out ((Fr.refl [q] W2).setCell (p := ⟨q, 8, none⟩) (by simp) (.int .u64 (s.old (rSlot c (IntKind.i64.wrap (f.fn - 1)))))))
      have F3 := Lib.hid (F2.out.trans (((Fr.refl [q] W2).setCell (p := ⟨q, 8, none⟩) (by simp) (.int .u64 (s.old (rSlot c (IntKind.i64.wrap (f.fn - 1)))))).mono (by simp)))
      have v20 : (W2.setCell ⟨q, 8, none⟩ (.int .u64 (s.old (rSlot c (IntKind.i64.wrap (f.fn - 1)))))).cell? ⟨p, 20, none⟩ = some (.pointer (some ⟨m, 0, none⟩)) := P3.out.at20
      have v3 : (W2.setCell ⟨q, 8, none⟩ (.int .u64 (s.old (rSlot c (IntKind.i64.wrap (f.fn - 1)))))).cell? ⟨q, 3, none⟩ = some (.int .i64 f.fn) := B3.out.blk.at_ 3))
  clear d20 d3 a20 a3 v20 v3 cs8 ks8 P1 B1 F1 P2 B2 F2
  rw [wrap_two] at P3 B3 F3
  go_wp2_with fail
  (with_reducible refine (lnext_any B3.out 4).mono ?_)
  rintro e W4 ⟨rfl, hb, hf⟩
  have P4 := Lib.hid (P3.out.lown B3.out hf)
  have B4 := Lib.hid hb
  have F4 := Lib.hid (F3.out.trans (hf.mono (by simp)))
  clear hb hf
  clear P3 B3 F3
  go_wp2
  go_ret
  exact ⟨rfl, P4.out, B4.out, F4.out⟩
set_option maxRecDepth 100000 in
set_option maxHeartbeats 4000000 in
theorem remr_5m (hin : CfgIn c) (hp : PE w p m k g cap s t d hd rv ev) (hl : LayHd hd c) (h : LB w q 109 (rpost f) f 0 0) (hl1 : f.ln = 5) (hc : wrap64 (wrap64 (wrap64 (2 * f.fi) + 1) + 1) < wrap64 (f.fn - 1)) :
    Calls Tryz.prog 173 #[.pointer (some ⟨q, 0, none⟩), .pointer (some ⟨p, 0, none⟩)] w (ILine w p m k g cap (s.go 1 (rSlot c (wrap64 (wrap64 (2 * f.fi) + 1))) id) t d hd rv ev q 109 rpost { f with fj := wrap64 (wrap64 (2 * f.fi) + 1), fw := s.old (rSlot c (wrap64 (wrap64 (2 * f.fi) + 1))), ln := 6 } .none) := by
  have P0 := Lib.hid hp
  have B0 := Lib.hid h
  have F0 := Lib.hid (Fr.refl [m, g, q] w)
  have HL := Lib.hid hl
  clear hp h hl
  have HIN := Lib.hid hin
  clear hin
  have hc0 := lline_any B0.out
  rw [hl1] at hc0
  have HC0 := Lib.hid hc0
  clear hc0
  go_enter Tryz.func173, Tryz.ntmps173
  go_wp2_with fail
  (with_reducible refine HC0.out.mono ?_)
  rintro e wx ⟨rfl, rfl⟩
  clear HC0
  have HC := Lib.hid hc
  clear hc
  go_wp2_with fail
  (with_reducible refine (rfirst_any B0.out).mono ?_)
  rintro e wx ⟨rfl, rfl⟩
  have c6 : w.cell? ⟨q, 6, none⟩ = some (.int .i64 f.fj) := B0.out.blk.at_ 6
  have k6 := B0.out.blk.free 6
  have B1 := Lib.hid (B0.out.putg 6 (.int .i64 (wrap64 (wrap64 (2 * f.fi) + 1))) (rpost { f with fj := wrap64 (wrap64 (2 * f.fi) + 1) }) { f with fj := wrap64 (wrap64 (2 * f.fi) + 1) } rfl)
  have P1 := Lib.hid (P0.out.lown B0.out ((Fr.refl [q] w).setCell (p := ⟨q, 6, none⟩) (by simp) (.int .i64 (wrap64 (wrap64 (2 * f.fi) + 1)))))
  have F1 := Lib.hid (F0.out.trans (((Fr.refl [q] w).setCell (p := ⟨q, 6, none⟩) (by simp) (.int .i64 (wrap64 (wrap64 (2 * f.fi) + 1)))).mono (by simp)))
  go_wp2_with fail
  clear c6 k6
  clear P0 B0 F0
  generalize (w.setCell ⟨q, 6, none⟩ (.int .i64 (wrap64 (wrap64 (2 * f.fi) + 1)))) = W1 at *
  go_wp2_with fail
  have P2 := Lib.hid (P1.out.drewN 1)
  have B2 := Lib.hid B1.out.drew
  have F2 := Lib.hid F1.out.drew
  clear P1 B1 F1
  have d20 : W1.drew.cell? ⟨p, 20, none⟩ = some (.pointer (some ⟨m, 0, none⟩)) := P2.out.at20
  have d6 : W1.drew.cell? ⟨q, 6, none⟩ = some (.int .i64 ((wrap64 (wrap64 (2 * f.fi) + 1)))) := B2.out.blk.at_ 6
  go_region_held3 (fun w' => w'.cell? ⟨p, 20, none⟩ = some (.pointer (some ⟨m, 0, none⟩)) ∧ w'.cell? ⟨q, 6, none⟩ = some (.int .i64 ((wrap64 (wrap64 (2 * f.fi) + 1))))) ((first | exact ⟨v20, v6⟩ | exact ⟨a20, a6⟩ | exact ⟨d20, d6⟩ | go_keep))
    ((go_at_call 177
      refine (hload_any (f := { f with fj := wrap64 (wrap64 (2 * f.fi) + 1) }) P2.out HL.out B2.out HIN.out _).mono ?_
      rintro e W3 ⟨rfl, hp, hb, hf⟩
      have P3 := Lib.hid hp
      have B3 := Lib.hid hb
      have F3 := Lib.hid (F2.out.trans hf)
      clear hp hb hf
      have a20 : W3.cell? ⟨p, 20, none⟩ = some (.pointer (some ⟨m, 0, none⟩)) := P3.out.at20
      have a6 : W3.cell? ⟨q, 6, none⟩ = some (.int .i64 ((wrap64 (wrap64 (2 * f.fi) + 1)))) := B3.out.blk.at_ 6
      have cs9 : W3.cell? ⟨q, 9, none⟩ = some (.int .u64 f.fw) := B3.out.blk.at_ 9
      have ks9 := B3.out.blk.free 9
      have B4 := Lib.hid (B3.out.putg 9 (.int .u64 (s.old (rSlot c (wrap64 (wrap64 (2 * f.fi) + 1))))) (rpost { f with fj := wrap64 (wrap64 (2 * f.fi) + 1), fw := s.old (rSlot c (wrap64 (wrap64 (2 * f.fi) + 1))) }) { f with fj := wrap64 (wrap64 (2 * f.fi) + 1), fw := s.old (rSlot c (wrap64 (wrap64 (2 * f.fi) + 1))) } rfl)
      have P4 := Lib.hid (P3.out.lown B3.out ((Fr.refl [q] W3).setCell (p := ⟨q, 9, none⟩) (by simp) (.int .u64 (s.old (rSlot c (wrap64 (wrap64 (2 * f.fi) + 1)))))))
      have F4 := Lib.hid (F3.out.trans (((Fr.refl [q] W3).setCell (p := ⟨q, 9, none⟩) (by simp) (.int .u64 (s.old (rSlot c (wrap64 (wrap64 (2 * f.fi) + 1)))))).mono (by simp)))
      have v20 : (W3.setCell ⟨q, 9, none⟩ (.int .u64 (s.old (rSlot c (wrap64 (wrap64 (2 * f.fi) + 1)))))).cell? ⟨p, 20, none⟩ = some (.pointer (some ⟨m, 0, none⟩)) := P4.out.at20
      have v6 : (W3.setCell ⟨q, 9, none⟩ (.int .u64 (s.old (rSlot c (wrap64 (wrap64 (2 * f.fi) + 1)))))).cell? ⟨q, 6, none⟩ = some (.int .i64 ((wrap64 (wrap64 (2 * f.fi) + 1)))) := B4.out.blk.at_ 6))
  clear d20 d6 a20 a6 v20 v6 cs9 ks9 P2 B2 F2 P3 B3 F3
  have c6 : (W3.setCell ⟨q, 9, none⟩ (.int .u64 (s.old (rSlot c (wrap64 (wrap64 (2 * f.fi) + 1)))))).cell? ⟨q, 6, none⟩ = some (.int .i64 ((wrap64 (wrap64 (2 * f.fi) + 1)))) := B4.out.blk.at_ 6
  go_wp2_with fail
  (with_reducible refine (rremains_y B4.out _ HC.out).mono ?_)
  rintro e wx ⟨rfl, rfl⟩
  clear c6
  go_wp2_with fail
  (with_reducible refine (lnext_any B4.out 6).mono ?_)
  rintro e W5 ⟨rfl, hb, hf⟩
  have P5 := Lib.hid (P4.out.lown B4.out hf)
  have B5 := Lib.hid hb
  have F5 := Lib.hid (F4.out.trans (hf.mono (by simp)))
  clear hb hf
  clear P4 B4 F4
  go_wp2
  go_ret
  exact ⟨rfl, P5.out, B5.out, F5.out⟩
set_option maxRecDepth 100000 in
set_option maxHeartbeats 4000000 in
theorem remr_5y (hin : CfgIn c) (hp : PE w p m k g cap s t d hd rv ev) (hl : LayHd hd c) (h : LB w q 109 (rpost f) f 0 0) (hl1 : f.ln = 5) (hc : ¬ wrap64 (wrap64 (wrap64 (2 * f.fi) + 1) + 1) < wrap64 (f.fn - 1)) (hx : s.old (rSlot c (wrap64 (wrap64 (2 * f.fi) + 1))) < f.fv) :
    Calls Tryz.prog 173 #[.pointer (some ⟨q, 0, none⟩), .pointer (some ⟨p, 0, none⟩)] w (ILine w p m k g cap (s.go 1 (rSlot c (wrap64 (wrap64 (2 * f.fi) + 1))) id) t d hd rv ev q 109 rpost { f with fj := wrap64 (wrap64 (2 * f.fi) + 1), fw := s.old (rSlot c (wrap64 (wrap64 (2 * f.fi) + 1))), ln := 7 } .none) := by
  have P0 := Lib.hid hp
  have B0 := Lib.hid h
  have F0 := Lib.hid (Fr.refl [m, g, q] w)
  have HL := Lib.hid hl
  clear hp h hl
  have HIN := Lib.hid hin
  clear hin
  have hc0 := lline_any B0.out
  rw [hl1] at hc0
  have HC0 := Lib.hid hc0
  clear hc0
  go_enter Tryz.func173, Tryz.ntmps173
  go_wp2_with fail
  (with_reducible refine HC0.out.mono ?_)
  rintro e wx ⟨rfl, rfl⟩
  clear HC0
  have HC := Lib.hid hc
  clear hc
  have HX := Lib.hid hx
  clear hx
  go_wp2_with fail
  (with_reducible refine (rfirst_any B0.out).mono ?_)
  rintro e wx ⟨rfl, rfl⟩
  have c6 : w.cell? ⟨q, 6, none⟩ = some (.int .i64 f.fj) := B0.out.blk.at_ 6
  have k6 := B0.out.blk.free 6
  have B1 := Lib.hid (B0.out.putg 6 (.int .i64 (wrap64 (wrap64 (2 * f.fi) + 1))) (rpost { f with fj := wrap64 (wrap64 (2 * f.fi) + 1) }) { f with fj := wrap64 (wrap64 (2 * f.fi) + 1) } rfl)
  have P1 := Lib.hid (P0.out.lown B0.out ((Fr.refl [q] w).setCell (p := ⟨q, 6, none⟩) (by simp) (.int .i64 (wrap64 (wrap64 (2 * f.fi) + 1)))))
  have F1 := Lib.hid (F0.out.trans (((Fr.refl [q] w).setCell (p := ⟨q, 6, none⟩) (by simp) (.int .i64 (wrap64 (wrap64 (2 * f.fi) + 1)))).mono (by simp)))
  go_wp2_with fail
  clear c6 k6
  clear P0 B0 F0
  generalize (w.setCell ⟨q, 6, none⟩ (.int .i64 (wrap64 (wrap64 (2 * f.fi) + 1)))) = W1 at *
  go_wp2_with fail
  have P2 := Lib.hid (P1.out.drewN 1)
  have B2 := Lib.hid B1.out.drew
  have F2 := Lib.hid F1.out.drew
  clear P1 B1 F1
  have d20 : W1.drew.cell? ⟨p, 20, none⟩ = some (.pointer (some ⟨m, 0, none⟩)) := P2.out.at20
  have d6 : W1.drew.cell? ⟨q, 6, none⟩ = some (.int .i64 ((wrap64 (wrap64 (2 * f.fi) + 1)))) := B2.out.blk.at_ 6
  go_region_held3 (fun w' => w'.cell? ⟨p, 20, none⟩ = some (.pointer (some ⟨m, 0, none⟩)) ∧ w'.cell? ⟨q, 6, none⟩ = some (.int .i64 ((wrap64 (wrap64 (2 * f.fi) + 1))))) ((first | exact ⟨v20, v6⟩ | exact ⟨a20, a6⟩ | exact ⟨d20, d6⟩ | go_keep))
    ((go_at_call 177
      refine (hload_any (f := { f with fj := wrap64 (wrap64 (2 * f.fi) + 1) }) P2.out HL.out B2.out HIN.out _).mono ?_
      rintro e W3 ⟨rfl, hp, hb, hf⟩
      have P3 := Lib.hid hp
      have B3 := Lib.hid hb
      have F3 := Lib.hid (F2.out.trans hf)
      clear hp hb hf
      have a20 : W3.cell? ⟨p, 20, none⟩ = some (.pointer (some ⟨m, 0, none⟩)) := P3.out.at20
      have a6 : W3.cell? ⟨q, 6, none⟩ = some (.int .i64 ((wrap64 (wrap64 (2 * f.fi) + 1)))) := B3.out.blk.at_ 6
      have cs9 : W3.cell? ⟨q, 9, none⟩ = some (.int .u64 f.fw) := B3.out.blk.at_ 9
      have ks9 := B3.out.blk.free 9
      have B4 := Lib.hid (B3.out.putg 9 (.int .u64 (s.old (rSlot c (wrap64 (wrap64 (2 * f.fi) + 1))))) (rpost { f with fj := wrap64 (wrap64 (2 * f.fi) + 1), fw := s.old (rSlot c (wrap64 (wrap64 (2 * f.fi) + 1))) }) { f with fj := wrap64 (wrap64 (2 * f.fi) + 1), fw := s.old (rSlot c (wrap64 (wrap64 (2 * f.fi) + 1))) } rfl)
      have P4 := Lib.hid (P3.out.lown B3.out ((Fr.refl [q] W3).setCell (p := ⟨q, 9, none⟩) (by simp) (.int .u64 (s.old (rSlot c (wrap64 (wrap64 (2 * f.fi) + 1)))))))
      have F4 := Lib.hid (F3.out.trans (((Fr.refl [q] W3).setCell (p := ⟨q, 9, none⟩) (by simp) (.int .u64 (s.old (rSlot c (wrap64 (wrap64 (2 * f.fi) + 1)))))).mono (by simp)))
      have v20 : (W3.setCell ⟨q, 9, none⟩ (.int .u64 (s.old (rSlot c (wrap64 (wrap64 (2 * f.fi) + 1)))))).cell? ⟨p, 20, none⟩ = some (.pointer (some ⟨m, 0, none⟩)) := P4.out.at20
      have v6 : (W3.setCell ⟨q, 9, none⟩ (.int .u64 (s.old (rSlot c (wrap64 (wrap64 (2 * f.fi) + 1)))))).cell? ⟨q, 6, none⟩ = some (.int .i64 ((wrap64 (wrap64 (2 * f.fi) + 1)))) := B4.out.blk.at_ 6))
  clear d20 d6 a20 a6 v20 v6 cs9 ks9 P2 B2 F2 P3 B3 F3
  have c6 : (W3.setCell ⟨q, 9, none⟩ (.int .u64 (s.old (rSlot c (wrap64 (wrap64 (2 * f.fi) + 1)))))).cell? ⟨q, 6, none⟩ = some (.int .i64 ((wrap64 (wrap64 (2 * f.fi) + 1)))) := B4.out.blk.at_ 6
  go_wp2_with fail
  (with_reducible refine (rremains_n B4.out _ (Int.not_lt.2 HC.out)).mono ?_)
  rintro e wx ⟨rfl, rfl⟩
  clear c6
  go_wp2_with fail
  (with_reducible refine (rchoose_y B4.out HX.out).mono ?_)
  rintro e W5 ⟨rfl, hb, hf⟩
  have P5 := Lib.hid (P4.out.lown B4.out hf)
  have B5 := Lib.hid hb
  have F5 := Lib.hid (F4.out.trans (hf.mono (by simp)))
  clear hb hf
  clear P4 B4 F4
  go_wp2
  go_ret
  exact ⟨rfl, P5.out, B5.out, F5.out⟩
set_option maxRecDepth 100000 in
set_option maxHeartbeats 4000000 in
theorem remr_5n (hin : CfgIn c) (hp : PE w p m k g cap s t d hd rv ev) (hl : LayHd hd c) (h : LB w q 109 (rpost f) f 0 0) (hl1 : f.ln = 5) (hc : ¬ wrap64 (wrap64 (wrap64 (2 * f.fi) + 1) + 1) < wrap64 (f.fn - 1)) (hx : ¬ s.old (rSlot c (wrap64 (wrap64 (2 * f.fi) + 1))) < f.fv) :
    Calls Tryz.prog 173 #[.pointer (some ⟨q, 0, none⟩), .pointer (some ⟨p, 0, none⟩)] w (ILine w p m k g cap (s.go 1 (rSlot c (wrap64 (wrap64 (2 * f.fi) + 1))) id) t d hd rv ev q 109 rpost { f with fj := wrap64 (wrap64 (2 * f.fi) + 1), fw := s.old (rSlot c (wrap64 (wrap64 (2 * f.fi) + 1))), ln := 8 } .none) := by
  have P0 := Lib.hid hp
  have B0 := Lib.hid h
  have F0 := Lib.hid (Fr.refl [m, g, q] w)
  have HL := Lib.hid hl
  clear hp h hl
  have HIN := Lib.hid hin
  clear hin
  have hc0 := lline_any B0.out
  rw [hl1] at hc0
  have HC0 := Lib.hid hc0
  clear hc0
  go_enter Tryz.func173, Tryz.ntmps173
  go_wp2_with fail
  (with_reducible refine HC0.out.mono ?_)
  rintro e wx ⟨rfl, rfl⟩
  clear HC0
  have HC := Lib.hid hc
  clear hc
  have HX := Lib.hid hx
  clear hx
  go_wp2_with fail
  (with_reducible refine (rfirst_any B0.out).mono ?_)
  rintro e wx ⟨rfl, rfl⟩
  have c6 : w.cell? ⟨q, 6, none⟩ = some (.int .i64 f.fj) := B0.out.blk.at_ 6
  have k6 := B0.out.blk.free 6
  have B1 := Lib.hid (B0.out.putg 6 (.int .i64 (wrap64 (wrap64 (2 * f.fi) + 1))) (rpost { f with fj := wrap64 (wrap64 (2 * f.fi) + 1) }) { f with fj := wrap64 (wrap64 (2 * f.fi) + 1) } rfl)
  have P1 := Lib.hid (P0.out.lown B0.out ((Fr.refl [q] w).setCell (p := ⟨q, 6, none⟩) (by simp) (.int .i64 (wrap64 (wrap64 (2 * f.fi) + 1)))))
  have F1 := Lib.hid (F0.out.trans (((Fr.refl [q] w).setCell (p := ⟨q, 6, none⟩) (by simp) (.int .i64 (wrap64 (wrap64 (2 * f.fi) + 1)))).mono (by simp)))
  go_wp2_with fail
  clear c6 k6
  clear P0 B0 F0
  generalize (w.setCell ⟨q, 6, none⟩ (.int .i64 (wrap64 (wrap64 (2 * f.fi) + 1)))) = W1 at *
  go_wp2_with fail
  have P2 := Lib.hid (P1.out.drewN 1)
  have B2 := Lib.hid B1.out.drew
  have F2 := Lib.hid F1.out.drew
  clear P1 B1 F1
  have d20 : W1.drew.cell? ⟨p, 20, none⟩ = some (.pointer (some ⟨m, 0, none⟩)) := P2.out.at20
  have d6 : W1.drew.cell? ⟨q, 6, none⟩ = some (.int .i64 ((wrap64 (wrap64 (2 * f.fi) + 1)))) := B2.out.blk.at_ 6
  go_region_held3 (fun w' => w'.cell? ⟨p, 20, none⟩ = some (.pointer (some ⟨m, 0, none⟩)) ∧ w'.cell? ⟨q, 6, none⟩ = some (.int .i64 ((wrap64 (wrap64 (2 * f.fi) + 1))))) ((first | exact ⟨v20, v6⟩ | exact ⟨a20, a6⟩ | exact ⟨d20, d6⟩ | go_keep))
    ((go_at_call 177
      refine (hload_any (f := { f with fj := wrap64 (wrap64 (2 * f.fi) + 1) }) P2.out HL.out B2.out HIN.out _).mono ?_
      rintro e W3 ⟨rfl, hp, hb, hf⟩
      have P3 := Lib.hid hp
      have B3 := Lib.hid hb
      have F3 := Lib.hid (F2.out.trans hf)
      clear hp hb hf
      have a20 : W3.cell? ⟨p, 20, none⟩ = some (.pointer (some ⟨m, 0, none⟩)) := P3.out.at20
      have a6 : W3.cell? ⟨q, 6, none⟩ = some (.int .i64 ((wrap64 (wrap64 (2 * f.fi) + 1)))) := B3.out.blk.at_ 6
      have cs9 : W3.cell? ⟨q, 9, none⟩ = some (.int .u64 f.fw) := B3.out.blk.at_ 9
      have ks9 := B3.out.blk.free 9
      have B4 := Lib.hid (B3.out.putg 9 (.int .u64 (s.old (rSlot c (wrap64 (wrap64 (2 * f.fi) + 1))))) (rpost { f with fj := wrap64 (wrap64 (2 * f.fi) + 1), fw := s.old (rSlot c (wrap64 (wrap64 (2 * f.fi) + 1))) }) { f with fj := wrap64 (wrap64 (2 * f.fi) + 1), fw := s.old (rSlot c (wrap64 (wrap64 (2 * f.fi) + 1))) } rfl)
      have P4 := Lib.hid (P3.out.lown B3.out ((Fr.refl [q] W3).setCell (p := ⟨q, 9, none⟩) (by simp) (.int .u64 (s.old (rSlot c (wrap64 (wrap64 (2 * f.fi) + 1)))))))
      have F4 := Lib.hid (F3.out.trans (((Fr.refl [q] W3).setCell (p := ⟨q, 9, none⟩) (by simp) (.int .u64 (s.old (rSlot c (wrap64 (wrap64 (2 * f.fi) + 1)))))).mono (by simp)))
      have v20 : (W3.setCell ⟨q, 9, none⟩ (.int .u64 (s.old (rSlot c (wrap64 (wrap64 (2 * f.fi) + 1)))))).cell? ⟨p, 20, none⟩ = some (.pointer (some ⟨m, 0, none⟩)) := P4.out.at20
      have v6 : (W3.setCell ⟨q, 9, none⟩ (.int .u64 (s.old (rSlot c (wrap64 (wrap64 (2 * f.fi) + 1)))))).cell? ⟨q, 6, none⟩ = some (.int .i64 ((wrap64 (wrap64 (2 * f.fi) + 1)))) := B4.out.blk.at_ 6))
  clear d20 d6 a20 a6 v20 v6 cs9 ks9 P2 B2 F2 P3 B3 F3
  have c6 : (W3.setCell ⟨q, 9, none⟩ (.int .u64 (s.old (rSlot c (wrap64 (wrap64 (2 * f.fi) + 1)))))).cell? ⟨q, 6, none⟩ = some (.int .i64 ((wrap64 (wrap64 (2 * f.fi) + 1)))) := B4.out.blk.at_ 6
  go_wp2_with fail
  (with_reducible refine (rremains_n B4.out _ (Int.not_lt.2 HC.out)).mono ?_)
  rintro e wx ⟨rfl, rfl⟩
  clear c6
  go_wp2_with fail
  (with_reducible refine (rchoose_n B4.out (Int.not_lt.2 HX.out)).mono ?_)
  rintro e W5 ⟨rfl, hb, hf⟩
  have P5 := Lib.hid (P4.out.lown B4.out hf)
  have B5 := Lib.hid hb
  have F5 := Lib.hid (F4.out.trans (hf.mono (by simp)))
  clear hb hf
  clear P4 B4 F4
  go_wp2
  go_ret
  exact ⟨rfl, P5.out, B5.out, F5.out⟩
set_option maxRecDepth 100000 in
set_option maxHeartbeats 4000000 in
theorem remr_6yy (hin : CfgIn c) (hp : PE w p m k g cap s t d hd rv ev) (hl : LayHd hd c) (h : LB w q 109 (rpost f) f 0 0) (hl1 : f.ln = 6) (hc : s.old (rSlot c (wrap64 (f.fj + 1))) < f.fw) (hx : s.old (rSlot c (wrap64 (f.fj + 1))) < f.fv) :
    Calls Tryz.prog 173 #[.pointer (some ⟨q, 0, none⟩), .pointer (some ⟨p, 0, none⟩)] w (ILine w p m k g cap (s.go 1 (rSlot c (wrap64 (f.fj + 1))) id) t d hd rv ev q 109 rpost { f with fw := s.old (rSlot c (wrap64 (f.fj + 1))), fj := wrap64 (f.fj + 1), ln := 7 } .none) := by
  have P0 := Lib.hid hp
  have B0 := Lib.hid h
  have F0 := Lib.hid (Fr.refl [m, g, q] w)
  have HL := Lib.hid hl
  clear hp h hl
  have HIN := Lib.hid hin
  clear hin
  have hc0 := lline_any B0.out
  rw [hl1] at hc0
  have HC0 := Lib.hid hc0
  clear hc0
  go_enter Tryz.func173, Tryz.ntmps173
  go_wp2_with fail
  (with_reducible refine HC0.out.mono ?_)
  rintro e wx ⟨rfl, rfl⟩
  clear HC0
  have HX := Lib.hid hx
  clear hx
  have hd0 : decide (s.old (rSlot c (IntKind.i64.wrap (f.fj + 1))) < f.fw) = true := by rw [wrap_two]; simpa using hc
  have HD0 := Lib.hid hd0
  clear hc hd0
  go_wp2_with fail
  have P1 := Lib.hid (P0.out.drewN 1)
  have B1 := Lib.hid B0.out.drew
  have F1 := Lib.hid F0.out.drew
  clear P0 B0 F0
  have d20 : w.drew.cell? ⟨p, 20, none⟩ = some (.pointer (some ⟨m, 0, none⟩)) := P1.out.at20
  have d6 : w.drew.cell? ⟨q, 6, none⟩ = some (.int .i64 f.fj) := B1.out.blk.at_ 6
  go_region_held3 (fun w' => w'.cell? ⟨p, 20, none⟩ = some (.pointer (some ⟨m, 0, none⟩)) ∧ w'.cell? ⟨q, 6, none⟩ = some (.int .i64 f.fj)) ((first | exact ⟨a20, a6⟩ | exact ⟨d20, d6⟩ | go_keep))
    ((go_at_call 177
      refine (hload_any (f := f) P1.out HL.out B1.out HIN.out _).mono ?_
      rintro e W2 ⟨rfl, hp, hb, hf⟩
      have P2 := Lib.hid hp
      have B2 := Lib.hid hb
      have F2 := Lib.hid (F1.out.trans hf)
      clear hp hb hf
      have a20 : W2.cell? ⟨p, 20, none⟩ = some (.pointer (some ⟨m, 0, none⟩)) := P2.out.at20
      have a6 : W2.cell? ⟨q, 6, none⟩ = some (.int .i64 f.fj) := B2.out.blk.at_ 6))
  clear d20 d6 a20 a6 P1 B1 F1
  rw [wrap_two] at P2
  have hd0 := HD0.out
  have c9 : W2.cell? ⟨q, 9, none⟩ = some (.int .u64 f.fw) := B2.out.blk.at_ 9
  have c6 : W2.cell? ⟨q, 6, none⟩ = some (.int .i64 f.fj) := B2.out.blk.at_ 6
  have k9 := B2.out.blk.free 9
  have k6 := B2.out.blk.free 6
  have B3 := Lib.hid (B2.out.putg 9 (.int .u64 (s.old (rSlot c (wrap64 (f.fj + 1))))) (rpost { f with fw := s.old (rSlot c (wrap64 (f.fj + 1))) }) { f with fw := s.old (rSlot c (wrap64 (f.fj + 1))) } rfl)
  have P3 := Lib.hid (P2.out.lown B2.out ((Fr.refl [q] W2).setCell (p := ⟨q, 9, none⟩) (by simp) (.int .u64 (s.old (rSlot c (wrap64 (f.fj + 1)))))))
  have F3 := Lib.hid (F2.out.trans (((Fr.refl [q] W2).setCell (p := ⟨q, 9, none⟩) (by simp) (.int .u64 (s.old (rSlot c (wrap64 (f.fj + 1)))))).mono (by simp)))
  have B4 := Lib.hid (B3.out.putg 6 (.int .i64 (wrap64 (f.fj + 1))) (rpost { f with fw := s.old (rSlot c (wrap64 (f.fj + 1))), fj := wrap64 (f.fj + 1) }) { f with fw := s.old (rSlot c (wrap64 (f.fj + 1))), fj := wrap64 (f.fj + 1) } rfl)
  have P4 := Lib.hid (P3.out.lown B3.out ((Fr.refl [q] (W2.setCell ⟨q, 9, none⟩ (.int .u64 (s.old (rSlot c (wrap64 (f.fj + 1))))))).setCell (p := ⟨q, 6, none⟩) (by simp) (.int .i64 (wrap64 (f.fj + 1)))))
  have F4 := Lib.hid (F3.out.trans (((Fr.refl [q] (W2.setCell ⟨q, 9, none⟩ (.int .u64 (s.old (rSlot c (wrap64 (f.fj + 1))))))).setCell (p := ⟨q, 6, none⟩) (by simp) (.int .i64 (wrap64 (f.fj + 1)))).mono (by simp)))
  go_wp2_with fail
  clear c9 c6
  clear k9 k6
  generalize ((W2.setCell ⟨q, 9, none⟩ (.int .u64 (s.old (rSlot c (wrap64 (f.fj + 1)))))).setCell ⟨q, 6, none⟩ (.int .i64 (wrap64 (f.fj + 1)))) = W4 at *
  go_wp2_with fail
  (with_reducible refine (rchoose_y B4.out HX.out).mono ?_)
  rintro e W5 ⟨rfl, hb, hf⟩
  have P5 := Lib.hid (P4.out.lown B4.out hf)
  have B5 := Lib.hid hb
  have F5 := Lib.hid (F4.out.trans (hf.mono (by simp)))
  clear hb hf
  clear P4 B4 F4
  go_wp2
  go_ret
  exact ⟨rfl, P5.out, B5.out, F5.out⟩
set_option maxRecDepth 100000 in
set_option maxHeartbeats 4000000 in
theorem remr_6yn (hin : CfgIn c) (hp : PE w p m k g cap s t d hd rv ev) (hl : LayHd hd c) (h : LB w q 109 (rpost f) f 0 0) (hl1 : f.ln = 6) (hc : s.old (rSlot c (wrap64 (f.fj + 1))) < f.fw) (hx : ¬ s.old (rSlot c (wrap64 (f.fj + 1))) < f.fv) :
    Calls Tryz.prog 173 #[.pointer (some ⟨q, 0, none⟩), .pointer (some ⟨p, 0, none⟩)] w (ILine w p m k g cap (s.go 1 (rSlot c (wrap64 (f.fj + 1))) id) t d hd rv ev q 109 rpost { f with fw := s.old (rSlot c (wrap64 (f.fj + 1))), fj := wrap64 (f.fj + 1), ln := 8 } .none) := by
  have P0 := Lib.hid hp
  have B0 := Lib.hid h
  have F0 := Lib.hid (Fr.refl [m, g, q] w)
  have HL := Lib.hid hl
  clear hp h hl
  have HIN := Lib.hid hin
  clear hin
  have hc0 := lline_any B0.out
  rw [hl1] at hc0
  have HC0 := Lib.hid hc0
  clear hc0
  go_enter Tryz.func173, Tryz.ntmps173
  go_wp2_with fail
  (with_reducible refine HC0.out.mono ?_)
  rintro e wx ⟨rfl, rfl⟩
  clear HC0
  have HX := Lib.hid hx
  clear hx
  have hd0 : decide (s.old (rSlot c (IntKind.i64.wrap (f.fj + 1))) < f.fw) = true := by rw [wrap_two]; simpa using hc
  have HD0 := Lib.hid hd0
  clear hc hd0
  go_wp2_with fail
  have P1 := Lib.hid (P0.out.drewN 1)
  have B1 := Lib.hid B0.out.drew
  have F1 := Lib.hid F0.out.drew
  clear P0 B0 F0
  have d20 : w.drew.cell? ⟨p, 20, none⟩ = some (.pointer (some ⟨m, 0, none⟩)) := P1.out.at20
  have d6 : w.drew.cell? ⟨q, 6, none⟩ = some (.int .i64 f.fj) := B1.out.blk.at_ 6
  go_region_held3 (fun w' => w'.cell? ⟨p, 20, none⟩ = some (.pointer (some ⟨m, 0, none⟩)) ∧ w'.cell? ⟨q, 6, none⟩ = some (.int .i64 f.fj)) ((first | exact ⟨a20, a6⟩ | exact ⟨d20, d6⟩ | go_keep))
    ((go_at_call 177
      refine (hload_any (f := f) P1.out HL.out B1.out HIN.out _).mono ?_
      rintro e W2 ⟨rfl, hp, hb, hf⟩
      have P2 := Lib.hid hp
      have B2 := Lib.hid hb
      have F2 := Lib.hid (F1.out.trans hf)
      clear hp hb hf
      have a20 : W2.cell? ⟨p, 20, none⟩ = some (.pointer (some ⟨m, 0, none⟩)) := P2.out.at20
      have a6 : W2.cell? ⟨q, 6, none⟩ = some (.int .i64 f.fj) := B2.out.blk.at_ 6))
  clear d20 d6 a20 a6 P1 B1 F1
  rw [wrap_two] at P2
  have hd0 := HD0.out
  have c9 : W2.cell? ⟨q, 9, none⟩ = some (.int .u64 f.fw) := B2.out.blk.at_ 9
  have c6 : W2.cell? ⟨q, 6, none⟩ = some (.int .i64 f.fj) := B2.out.blk.at_ 6
  have k9 := B2.out.blk.free 9
  have k6 := B2.out.blk.free 6
  have B3 := Lib.hid (B2.out.putg 9 (.int .u64 (s.old (rSlot c (wrap64 (f.fj + 1))))) (rpost { f with fw := s.old (rSlot c (wrap64 (f.fj + 1))) }) { f with fw := s.old (rSlot c (wrap64 (f.fj + 1))) } rfl)
  have P3 := Lib.hid (P2.out.lown B2.out ((Fr.refl [q] W2).setCell (p := ⟨q, 9, none⟩) (by simp) (.int .u64 (s.old (rSlot c (wrap64 (f.fj + 1)))))))
  have F3 := Lib.hid (F2.out.trans (((Fr.refl [q] W2).setCell (p := ⟨q, 9, none⟩) (by simp) (.int .u64 (s.old (rSlot c (wrap64 (f.fj + 1)))))).mono (by simp)))
  have B4 := Lib.hid (B3.out.putg 6 (.int .i64 (wrap64 (f.fj + 1))) (rpost { f with fw := s.old (rSlot c (wrap64 (f.fj + 1))), fj := wrap64 (f.fj + 1) }) { f with fw := s.old (rSlot c (wrap64 (f.fj + 1))), fj := wrap64 (f.fj + 1) } rfl)
  have P4 := Lib.hid (P3.out.lown B3.out ((Fr.refl [q] (W2.setCell ⟨q, 9, none⟩ (.int .u64 (s.old (rSlot c (wrap64 (f.fj + 1))))))).setCell (p := ⟨q, 6, none⟩) (by simp) (.int .i64 (wrap64 (f.fj + 1)))))
  have F4 := Lib.hid (F3.out.trans (((Fr.refl [q] (W2.setCell ⟨q, 9, none⟩ (.int .u64 (s.old (rSlot c (wrap64 (f.fj + 1))))))).setCell (p := ⟨q, 6, none⟩) (by simp) (.int .i64 (wrap64 (f.fj + 1)))).mono (by simp)))
  go_wp2_with fail
  clear c9 c6
  clear k9 k6
  generalize ((W2.setCell ⟨q, 9, none⟩ (.int .u64 (s.old (rSlot c (wrap64 (f.fj + 1)))))).setCell ⟨q, 6, none⟩ (.int .i64 (wrap64 (f.fj + 1)))) = W4 at *
  go_wp2_with fail
  (with_reducible refine (rchoose_n B4.out (Int.not_lt.2 HX.out)).mono ?_)
  rintro e W5 ⟨rfl, hb, hf⟩
  have P5 := Lib.hid (P4.out.lown B4.out hf)
  have B5 := Lib.hid hb
  have F5 := Lib.hid (F4.out.trans (hf.mono (by simp)))
  clear hb hf
  clear P4 B4 F4
  go_wp2
  go_ret
  exact ⟨rfl, P5.out, B5.out, F5.out⟩
set_option maxRecDepth 100000 in
set_option maxHeartbeats 4000000 in
theorem remr_6ny (hin : CfgIn c) (hp : PE w p m k g cap s t d hd rv ev) (hl : LayHd hd c) (h : LB w q 109 (rpost f) f 0 0) (hl1 : f.ln = 6) (hc : ¬ s.old (rSlot c (wrap64 (f.fj + 1))) < f.fw) (hx : f.fw < f.fv) :
    Calls Tryz.prog 173 #[.pointer (some ⟨q, 0, none⟩), .pointer (some ⟨p, 0, none⟩)] w (ILine w p m k g cap (s.go 1 (rSlot c (wrap64 (f.fj + 1))) id) t d hd rv ev q 109 rpost { f with ln := 7 } .none) := by
  have P0 := Lib.hid hp
  have B0 := Lib.hid h
  have F0 := Lib.hid (Fr.refl [m, g, q] w)
  have HL := Lib.hid hl
  clear hp h hl
  have HIN := Lib.hid hin
  clear hin
  have hc0 := lline_any B0.out
  rw [hl1] at hc0
  have HC0 := Lib.hid hc0
  clear hc0
  go_enter Tryz.func173, Tryz.ntmps173
  go_wp2_with fail
  (with_reducible refine HC0.out.mono ?_)
  rintro e wx ⟨rfl, rfl⟩
  clear HC0
  have HX := Lib.hid hx
  clear hx
  have hd0 : decide (s.old (rSlot c (IntKind.i64.wrap (f.fj + 1))) < f.fw) = false := by rw [wrap_two]; simpa using hc
  have HD0 := Lib.hid hd0
  clear hc hd0
  go_wp2_with fail
  have P1 := Lib.hid (P0.out.drewN 1)
  have B1 := Lib.hid B0.out.drew
  have F1 := Lib.hid F0.out.drew
  clear P0 B0 F0
  have d20 : w.drew.cell? ⟨p, 20, none⟩ = some (.pointer (some ⟨m, 0, none⟩)) := P1.out.at20
  have d6 : w.drew.cell? ⟨q, 6, none⟩ = some (.int .i64 f.fj) := B1.out.blk.at_ 6
  go_region_held3 (fun w' => w'.cell? ⟨p, 20, none⟩ = some (.pointer (some ⟨m, 0, none⟩)) ∧ w'.cell? ⟨q, 6, none⟩ = some (.int .i64 f.fj)) ((first | exact ⟨a20, a6⟩ | exact ⟨d20, d6⟩ | go_keep))
    ((go_at_call 177
      refine (hload_any (f := f) P1.out HL.out B1.out HIN.out _).mono ?_
      rintro e W2 ⟨rfl, hp, hb, hf⟩
      have P2 := Lib.hid hp
      have B2 := Lib.hid hb
      have F2 := Lib.hid (F1.out.trans hf)
      clear hp hb hf
      have a20 : W2.cell? ⟨p, 20, none⟩ = some (.pointer (some ⟨m, 0, none⟩)) := P2.out.at20
      have a6 : W2.cell? ⟨q, 6, none⟩ = some (.int .i64 f.fj) := B2.out.blk.at_ 6))
  clear d20 d6 a20 a6 P1 B1 F1
  rw [wrap_two] at P2
  have hd0 := HD0.out
  have c9 : W2.cell? ⟨q, 9, none⟩ = some (.int .u64 f.fw) := B2.out.blk.at_ 9
  have c6 : W2.cell? ⟨q, 6, none⟩ = some (.int .i64 f.fj) := B2.out.blk.at_ 6
  go_wp2_with fail
  (with_reducible refine (rchoose_y B2.out HX.out).mono ?_)
  rintro e W3 ⟨rfl, hb, hf⟩
  have P3 := Lib.hid (P2.out.lown B2.out hf)
  have B3 := Lib.hid hb
  have F3 := Lib.hid (F2.out.trans (hf.mono (by simp)))
  clear hb hf
  clear c9 c6
  clear P2 B2 F2
  go_wp2
  go_ret
  exact ⟨rfl, P3.out, B3.out, F3.out⟩
set_option maxRecDepth 100000 in
set_option maxHeartbeats 4000000 in
theorem remr_6nn (hin : CfgIn c) (hp : PE w p m k g cap s t d hd rv ev) (hl : LayHd hd c) (h : LB w q 109 (rpost f) f 0 0) (hl1 : f.ln = 6) (hc : ¬ s.old (rSlot c (wrap64 (f.fj + 1))) < f.fw) (hx : ¬ f.fw < f.fv) :
    Calls Tryz.prog 173 #[.pointer (some ⟨q, 0, none⟩), .pointer (some ⟨p, 0, none⟩)] w (ILine w p m k g cap (s.go 1 (rSlot c (wrap64 (f.fj + 1))) id) t d hd rv ev q 109 rpost { f with ln := 8 } .none) := by
  have P0 := Lib.hid hp
  have B0 := Lib.hid h
  have F0 := Lib.hid (Fr.refl [m, g, q] w)
  have HL := Lib.hid hl
  clear hp h hl
  have HIN := Lib.hid hin
  clear hin
  have hc0 := lline_any B0.out
  rw [hl1] at hc0
  have HC0 := Lib.hid hc0
  clear hc0
  go_enter Tryz.func173, Tryz.ntmps173
  go_wp2_with fail
  (with_reducible refine HC0.out.mono ?_)
  rintro e wx ⟨rfl, rfl⟩
  clear HC0
  have HX := Lib.hid hx
  clear hx
  have hd0 : decide (s.old (rSlot c (IntKind.i64.wrap (f.fj + 1))) < f.fw) = false := by rw [wrap_two]; simpa using hc
  have HD0 := Lib.hid hd0
  clear hc hd0
  go_wp2_with fail
  have P1 := Lib.hid (P0.out.drewN 1)
  have B1 := Lib.hid B0.out.drew
  have F1 := Lib.hid F0.out.drew
  clear P0 B0 F0
  have d20 : w.drew.cell? ⟨p, 20, none⟩ = some (.pointer (some ⟨m, 0, none⟩)) := P1.out.at20
  have d6 : w.drew.cell? ⟨q, 6, none⟩ = some (.int .i64 f.fj) := B1.out.blk.at_ 6
  go_region_held3 (fun w' => w'.cell? ⟨p, 20, none⟩ = some (.pointer (some ⟨m, 0, none⟩)) ∧ w'.cell? ⟨q, 6, none⟩ = some (.int .i64 f.fj)) ((first | exact ⟨a20, a6⟩ | exact ⟨d20, d6⟩ | go_keep))
    ((go_at_call 177
      refine (hload_any (f := f) P1.out HL.out B1.out HIN.out _).mono ?_
      rintro e W2 ⟨rfl, hp, hb, hf⟩
      have P2 := Lib.hid hp
      have B2 := Lib.hid hb
      have F2 := Lib.hid (F1.out.trans hf)
      clear hp hb hf
      have a20 : W2.cell? ⟨p, 20, none⟩ = some (.pointer (some ⟨m, 0, none⟩)) := P2.out.at20
      have a6 : W2.cell? ⟨q, 6, none⟩ = some (.int .i64 f.fj) := B2.out.blk.at_ 6))
  clear d20 d6 a20 a6 P1 B1 F1
  rw [wrap_two] at P2
  have hd0 := HD0.out
  have c9 : W2.cell? ⟨q, 9, none⟩ = some (.int .u64 f.fw) := B2.out.blk.at_ 9
  have c6 : W2.cell? ⟨q, 6, none⟩ = some (.int .i64 f.fj) := B2.out.blk.at_ 6
  go_wp2_with fail
  (with_reducible refine (rchoose_n B2.out (Int.not_lt.2 HX.out)).mono ?_)
  rintro e W3 ⟨rfl, hb, hf⟩
  have P3 := Lib.hid (P2.out.lown B2.out hf)
  have B3 := Lib.hid hb
  have F3 := Lib.hid (F2.out.trans (hf.mono (by simp)))
  clear hb hf
  clear c9 c6
  clear P2 B2 F2
  go_wp2
  go_ret
  exact ⟨rfl, P3.out, B3.out, F3.out⟩
set_option maxRecDepth 100000 in
set_option maxHeartbeats 4000000 in
theorem remr_7y (hin : CfgIn c) (hp : PE w p m k g cap s t d hd rv ev) (hl : LayHd hd c) (h : LB w q 109 (rpost f) f 0 0) (hl1 : f.ln = 7) (hc : wrap64 (wrap64 (2 * f.fj) + 1) < wrap64 (f.fn - 1)) :
    Calls Tryz.prog 173 #[.pointer (some ⟨q, 0, none⟩), .pointer (some ⟨p, 0, none⟩)] w (ILine w p m k g cap (s.go 2 (rSlot c f.fi) (fun _ => f.fw)) t d hd rv ev q 109 rpost { f with fi := f.fj, ln := 5 } .none) := by
  have P0 := Lib.hid hp
  have B0 := Lib.hid h
  have F0 := Lib.hid (Fr.refl [m, g, q] w)
  have HL := Lib.hid hl
  clear hp h hl
  have HIN := Lib.hid hin
  clear hin
  have hc0 := lline_any B0.out
  rw [hl1] at hc0
  have HC0 := Lib.hid hc0
  clear hc0
  go_enter Tryz.func173, Tryz.ntmps173
  go_wp2_with fail
  (with_reducible refine HC0.out.mono ?_)
  rintro e wx ⟨rfl, rfl⟩
  clear HC0
  have HC := Lib.hid hc
  clear hc
  go_wp2_with fail
  have P1 := Lib.hid (P0.out.drewN 1)
  have B1 := Lib.hid B0.out.drew
  have F1 := Lib.hid F0.out.drew
  clear P0 B0 F0
  have d20 : w.drew.cell? ⟨p, 20, none⟩ = some (.pointer (some ⟨m, 0, none⟩)) := P1.out.at20
  have d9 : w.drew.cell? ⟨q, 9, none⟩ = some (.int .u64 f.fw) := B1.out.blk.at_ 9
  go_region_held3 (fun w' => w'.cell? ⟨p, 20, none⟩ = some (.pointer (some ⟨m, 0, none⟩)) ∧ w'.cell? ⟨q, 9, none⟩ = some (.int .u64 f.fw)) ((first | exact ⟨a20, a9⟩ | exact ⟨d20, d9⟩ | go_keep))
    ((go_at_call 185
      refine (hfill_any (f := f) P1.out HL.out B1.out HIN.out _).mono ?_
      rintro e W2 ⟨rfl, hp, hb, hf⟩
      have P2 := Lib.hid hp
      have B2 := Lib.hid hb
      have F2 := Lib.hid (F1.out.trans hf)
      clear hp hb hf
      have a20 : W2.cell? ⟨p, 20, none⟩ = some (.pointer (some ⟨m, 0, none⟩)) := P2.out.at20
      have a9 : W2.cell? ⟨q, 9, none⟩ = some (.int .u64 f.fw) := B2.out.blk.at_ 9))
  clear d20 d9 a20 a9 P1 B1 F1
  have c6 : W2.cell? ⟨q, 6, none⟩ = some (.int .i64 f.fj) := B2.out.blk.at_ 6
  have c4 : W2.cell? ⟨q, 4, none⟩ = some (.int .i64 f.fi) := B2.out.blk.at_ 4
  have k4 := B2.out.blk.free 4
  have B3 := Lib.hid (B2.out.putg 4 (.int .i64 f.fj) (rpost { f with fi := f.fj }) { f with fi := f.fj } rfl)
  have P3 := Lib.hid (P2.out.lown B2.out ((Fr.refl [q] W2).setCell (p := ⟨q, 4, none⟩) (by simp) (.int .i64 f.fj)))
  have F3 := Lib.hid (F2.out.trans (((Fr.refl [q] W2).setCell (p := ⟨q, 4, none⟩) (by simp) (.int .i64 f.fj)).mono (by simp)))
  go_wp2_with fail
  clear c6 c4 k4
  clear P2 B2 F2
  generalize (W2.setCell ⟨q, 4, none⟩ (.int .i64 f.fj)) = W3 at *
  go_wp2_with fail
  (with_reducible refine (rsink_y B3.out HC.out).mono ?_)
  rintro e W4 ⟨rfl, hb, hf⟩
  have P4 := Lib.hid (P3.out.lown B3.out hf)
  have B4 := Lib.hid hb
  have F4 := Lib.hid (F3.out.trans (hf.mono (by simp)))
  clear hb hf
  clear P3 B3 F3
  go_wp2
  go_ret
  exact ⟨rfl, P4.out, B4.out, F4.out⟩
set_option maxRecDepth 100000 in
set_option maxHeartbeats 4000000 in
theorem remr_7n (hin : CfgIn c) (hp : PE w p m k g cap s t d hd rv ev) (hl : LayHd hd c) (h : LB w q 109 (rpost f) f 0 0) (hl1 : f.ln = 7) (hc : ¬ wrap64 (wrap64 (2 * f.fj) + 1) < wrap64 (f.fn - 1)) :
    Calls Tryz.prog 173 #[.pointer (some ⟨q, 0, none⟩), .pointer (some ⟨p, 0, none⟩)] w (ILine w p m k g cap (s.go 2 (rSlot c f.fi) (fun _ => f.fw)) t d hd rv ev q 109 rpost { f with fi := f.fj, ln := 8 } .none) := by
  have P0 := Lib.hid hp
  have B0 := Lib.hid h
  have F0 := Lib.hid (Fr.refl [m, g, q] w)
  have HL := Lib.hid hl
  clear hp h hl
  have HIN := Lib.hid hin
  clear hin
  have hc0 := lline_any B0.out
  rw [hl1] at hc0
  have HC0 := Lib.hid hc0
  clear hc0
  go_enter Tryz.func173, Tryz.ntmps173
  go_wp2_with fail
  (with_reducible refine HC0.out.mono ?_)
  rintro e wx ⟨rfl, rfl⟩
  clear HC0
  have HC := Lib.hid hc
  clear hc
  go_wp2_with fail
  have P1 := Lib.hid (P0.out.drewN 1)
  have B1 := Lib.hid B0.out.drew
  have F1 := Lib.hid F0.out.drew
  clear P0 B0 F0
  have d20 : w.drew.cell? ⟨p, 20, none⟩ = some (.pointer (some ⟨m, 0, none⟩)) := P1.out.at20
  have d9 : w.drew.cell? ⟨q, 9, none⟩ = some (.int .u64 f.fw) := B1.out.blk.at_ 9
  go_region_held3 (fun w' => w'.cell? ⟨p, 20, none⟩ = some (.pointer (some ⟨m, 0, none⟩)) ∧ w'.cell? ⟨q, 9, none⟩ = some (.int .u64 f.fw)) ((first | exact ⟨a20, a9⟩ | exact ⟨d20, d9⟩ | go_keep))
    ((go_at_call 185
      refine (hfill_any (f := f) P1.out HL.out B1.out HIN.out _).mono ?_
      rintro e W2 ⟨rfl, hp, hb, hf⟩
      have P2 := Lib.hid hp
      have B2 := Lib.hid hb
      have F2 := Lib.hid (F1.out.trans hf)
      clear hp hb hf
      have a20 : W2.cell? ⟨p, 20, none⟩ = some (.pointer (some ⟨m, 0, none⟩)) := P2.out.at20
      have a9 : W2.cell? ⟨q, 9, none⟩ = some (.int .u64 f.fw) := B2.out.blk.at_ 9))
  clear d20 d9 a20 a9 P1 B1 F1
  have c6 : W2.cell? ⟨q, 6, none⟩ = some (.int .i64 f.fj) := B2.out.blk.at_ 6
  have c4 : W2.cell? ⟨q, 4, none⟩ = some (.int .i64 f.fi) := B2.out.blk.at_ 4
  have k4 := B2.out.blk.free 4
  have B3 := Lib.hid (B2.out.putg 4 (.int .i64 f.fj) (rpost { f with fi := f.fj }) { f with fi := f.fj } rfl)
  have P3 := Lib.hid (P2.out.lown B2.out ((Fr.refl [q] W2).setCell (p := ⟨q, 4, none⟩) (by simp) (.int .i64 f.fj)))
  have F3 := Lib.hid (F2.out.trans (((Fr.refl [q] W2).setCell (p := ⟨q, 4, none⟩) (by simp) (.int .i64 f.fj)).mono (by simp)))
  go_wp2_with fail
  clear c6 c4 k4
  clear P2 B2 F2
  generalize (W2.setCell ⟨q, 4, none⟩ (.int .i64 f.fj)) = W3 at *
  go_wp2_with fail
  (with_reducible refine (rsink_n B3.out (Int.not_lt.2 HC.out)).mono ?_)
  rintro e W4 ⟨rfl, hb, hf⟩
  have P4 := Lib.hid (P3.out.lown B3.out hf)
  have B4 := Lib.hid hb
  have F4 := Lib.hid (F3.out.trans (hf.mono (by simp)))
  clear hb hf
  clear P3 B3 F3
  go_wp2
  go_ret
  exact ⟨rfl, P4.out, B4.out, F4.out⟩
set_option maxRecDepth 100000 in
set_option maxHeartbeats 4000000 in
theorem remr_8 (hin : CfgIn c) (hp : PE w p m k g cap s t d hd rv ev) (hl : LayHd hd c) (h : LB w q 109 (rpost f) f 0 0) (hl1 : f.ln = 8) (hu : uw f.fu) :
    Calls Tryz.prog 173 #[.pointer (some ⟨q, 0, none⟩), .pointer (some ⟨p, 0, none⟩)] w (ILine w p m k g cap (s.go 2 (rSlot c f.fi) (fun _ => f.fv)) t d hd rv ev q 109 rpost f ⟨true, 1, f.fu % 65536⟩) := by
  have P0 := Lib.hid hp
  have B0 := Lib.hid h
  have F0 := Lib.hid (Fr.refl [m, g, q] w)
  have HL := Lib.hid hl
  clear hp h hl
  have HIN := Lib.hid hin
  clear hin
  have hc0 := lline_any B0.out
  rw [hl1] at hc0
  have HC0 := Lib.hid hc0
  clear hc0
  go_enter Tryz.func173, Tryz.ntmps173
  go_wp2_with fail
  (with_reducible refine HC0.out.mono ?_)
  rintro e wx ⟨rfl, rfl⟩
  clear HC0
  have HU := Lib.hid hu
  clear hu
  go_wp2_with fail
  have P1 := Lib.hid (P0.out.drewN 1)
  have B1 := Lib.hid B0.out.drew
  have F1 := Lib.hid F0.out.drew
  clear P0 B0 F0
  have d20 : w.drew.cell? ⟨p, 20, none⟩ = some (.pointer (some ⟨m, 0, none⟩)) := P1.out.at20
  have d8 : w.drew.cell? ⟨q, 8, none⟩ = some (.int .u64 f.fv) := B1.out.blk.at_ 8
  go_region_held3 (fun w' => w'.cell? ⟨p, 20, none⟩ = some (.pointer (some ⟨m, 0, none⟩)) ∧ w'.cell? ⟨q, 8, none⟩ = some (.int .u64 f.fv)) ((first | exact ⟨a20, a8⟩ | exact ⟨d20, d8⟩ | go_keep))
    ((go_at_call 185
      refine (hfill_any (f := f) P1.out HL.out B1.out HIN.out _).mono ?_
      rintro e W2 ⟨rfl, hp, hb, hf⟩
      have P2 := Lib.hid hp
      have B2 := Lib.hid hb
      have F2 := Lib.hid (F1.out.trans hf)
      clear hp hb hf
      have a20 : W2.cell? ⟨p, 20, none⟩ = some (.pointer (some ⟨m, 0, none⟩)) := P2.out.at20
      have a8 : W2.cell? ⟨q, 8, none⟩ = some (.int .u64 f.fv) := B2.out.blk.at_ 8))
  clear d20 d8 a20 a8 P1 B1 F1
  go_wp2_with fail
  have P3 := Lib.hid (P2.out.drewN 1)
  have B3 := Lib.hid B2.out.drew
  have F3 := Lib.hid F2.out.drew
  clear P2 B2 F2
  have d20 : W2.drew.cell? ⟨p, 20, none⟩ = some (.pointer (some ⟨m, 0, none⟩)) := P3.out.at20
  go_region_held3 (fun w' => w'.cell? ⟨p, 20, none⟩ = some (.pointer (some ⟨m, 0, none⟩))) ((first | exact b20 | exact a20 | exact d20 | go_keep))
    (first
      | (go_at_call 180
         (with_reducible refine (rtask_any B3.out HU.out).mono ?_)
         rintro e wx ⟨rfl, rfl⟩
         skip)
      | (go_at_call 175
         refine (lend_any B3.out 1 _).mono ?_
         rintro e W4 ⟨rfl, hb, hf⟩
         have P4 := Lib.hid (P3.out.lown B3.out hf)
         have B4 := Lib.hid hb
         have F4 := Lib.hid (F3.out.trans (hf.mono (by simp)))
         clear hb hf
         have b20 : W4.cell? ⟨p, 20, none⟩ = some (.pointer (some ⟨m, 0, none⟩)) := P4.out.at20))
  clear d20 b20 P3 B3 F3
  go_wp2
  go_ret
  exact ⟨rfl, P4.out, B4.out, F4.out⟩
set_option maxRecDepth 100000 in
set_option maxHeartbeats 4000000 in
theorem remr_4d (hin : CfgIn c) (hp : PE w p m k g cap s t d hd rv ev) (hl : LayHd hd c) (h : LB w q 109 (rpost f) f 0 0) (hl1 : f.ln = 4) (hu : uw f.fu) {B : Nat} {es : List Ev} (hev : OwnE w B ev es) (hn : es.length ≤ 900000) (hB : B ≤ w.heap.size) (hc : f.fn = 1) :
    Calls Tryz.prog 173 #[.pointer (some ⟨q, 0, none⟩), .pointer (some ⟨p, 0, none⟩)] w (ILineE B w p m k g cap (s.go 2 2 (fun _ => IntKind.u64.wrap (wrap64 (f.fn - 1)))) t d hd rv ev (es ++ [⟨13, f.fa, f.fu % 65536, 0, 0⟩]) q 109 rpost f ⟨true, 1, f.fu % 65536⟩) := by
  have P0 := Lib.hid hp
  have B0 := Lib.hid h
  have F0 := Lib.hid (Fr.refl [m, g, q] w)
  have HL := Lib.hid hl
  clear hp h hl
  have HACC := Lib.hid (rem_accs P0.out B0.out (by decide))
  have HIN := Lib.hid hin
  have HU := Lib.hid hu
  have HV := Lib.hid hev
  have HN := Lib.hid hn
  have HB := Lib.hid hB
  clear hin hu hev hn hB
  have hd0 : (f.fn == 1) = true := by simpa using hc
  have HD0 := Lib.hid hd0
  clear hc hd0
  have hc0 := lline_any B0.out
  rw [hl1] at hc0
  have HC0 := Lib.hid hc0
  clear hc0
  go_enter Tryz.func173, Tryz.ntmps173
  go_wp2_with fail
  (with_reducible refine HC0.out.mono ?_)
  rintro e wx ⟨rfl, rfl⟩
  clear HC0
  go_wp2_with fail
  (with_reducible refine (hstoreLess_any (f := f) P0.out HL.out B0.out).mono ?_)
  rintro e W1 ⟨rfl, hp, hb, hf⟩
  have P1 := Lib.hid hp
  have B1 := Lib.hid hb
  have F1 := Lib.hid (F0.out.trans hf)
  clear hp hb hf
  clear P0 B0 F0
  have VV := Lib.hid (show OwnE W1.drew B ev es from (HV.out.accs F1.out HACC.out).below (below_drew (Below.refl _ _)))
  have HBB := Lib.hid (show B ≤ W1.drew.heap.size from Nat.le_trans HB.out F1.out.size)
  have HSZ := Lib.hid (show w.heap.size ≤ W1.drew.heap.size from F1.out.size)
  go_wp2_with fail
  have P2 := Lib.hid (P1.out.drewN 1)
  have B2 := Lib.hid B1.out.drew
  have F2 := Lib.hid F1.out.drew
  clear P1 B1 F1
  have d20 : W1.drew.cell? ⟨p, 20, none⟩ = some (.pointer (some ⟨m, 0, none⟩)) := P2.out.at20
  have d5 : W1.drew.cell? ⟨q, 5, none⟩ = some (.int .i64 f.fa) := B2.out.blk.at_ 5
  go_region_held3 (fun w' => w'.cell? ⟨p, 20, none⟩ = some (.pointer (some ⟨m, 0, none⟩)) ∧ w'.cell? ⟨q, 5, none⟩ = some (.int .i64 f.fa)) ((first | exact ⟨b20, b5⟩ | exact ⟨a20, a5⟩ | exact ⟨d20, d5⟩ | go_keep))
    (first
      | (go_at_call 180
         (with_reducible refine (rtask_any B2.out HU.out).mono ?_)
         rintro e wx ⟨rfl, rfl⟩
         skip)
      | (go_at_call 179
         refine (pemit2_any P2.out VV.out HN.out HBB.out _ _ _ _ _).mono ?_
         rintro e W3 ⟨ev1, rfl, hp, hov, hat, hf⟩
         have P3 := Lib.hid hp
         have V3 := Lib.hid hov
         have AT := Lib.hid hat
         have B3 := Lib.hid (B2.out.fr hf (by simp only [List.mem_cons, not_or]; exact ⟨(B2.out.ne P2.out).1, VV.out.nin B2.out.blk (by decide)⟩))
         have F3 := Lib.hid ((F2.out.mono (T := p :: m :: g :: q :: ev.ownBlock.toList) (by simp)).trans (hf.mono (by intro x hx; simp only [List.mem_cons] at hx ⊢; rcases hx with hx | hx; exact .inl hx; exact .inr (.inr (.inr (.inr hx))))))
         clear hp hov hat hf
         have b20 : W3.cell? ⟨p, 20, none⟩ = some (.pointer (some ⟨m, 0, none⟩)) := P3.out.at20
         have b5 : W3.cell? ⟨q, 5, none⟩ = some (.int .i64 f.fa) := B3.out.blk.at_ 5))
  clear d20 d5 b20 b5 P2 B2 F2
  have hd0 := HD0.out
  have c3 : W3.cell? ⟨q, 3, none⟩ = some (.int .i64 f.fn) := B3.out.blk.at_ 3
  have V4 := Lib.hid (V3.out.below (below_drew (Below.refl _ _)))
  go_wp2_with fail
  clear c3
  have P4 := Lib.hid (P3.out.drewN 1)
  have B4 := Lib.hid B3.out.drew
  have F4 := Lib.hid F3.out.drew
  clear P3 B3 F3
  have d20 : W3.drew.cell? ⟨p, 20, none⟩ = some (.pointer (some ⟨m, 0, none⟩)) := P4.out.at20
  go_region_held3 (fun w' => w'.cell? ⟨p, 20, none⟩ = some (.pointer (some ⟨m, 0, none⟩))) ((first | exact b20 | exact a20 | exact d20 | go_keep))
    (first
      | (go_at_call 180
         (with_reducible refine (rtask_any B4.out HU.out).mono ?_)
         rintro e wx ⟨rfl, rfl⟩
         skip)
      | (go_at_call 175
         refine (lend_any B4.out 1 _).mono ?_
         rintro e W5 ⟨rfl, hb, hf⟩
         have P5 := Lib.hid (P4.out.lown B4.out hf)
         have V5 := Lib.hid (V4.out.accs hf (one_acc B4.out.blk (by decide)))
         have B5 := Lib.hid hb
         have F5 := Lib.hid (F4.out.trans (hf.mono (by simp)))
         clear hb hf
         have b20 : W5.cell? ⟨p, 20, none⟩ = some (.pointer (some ⟨m, 0, none⟩)) := P5.out.at20))
  clear d20 b20 P4 B4 F4
  go_wp2
  go_ret
  exact ⟨_, rfl, P5.out, V5.out, fun x hx => (AT.out x hx).imp id (fun h => Nat.le_trans HSZ.out h), B5.out, F5.out⟩
set_option maxRecDepth 100000 in
set_option maxHeartbeats 4000000 in
theorem remr_4y (hin : CfgIn c) (hp : PE w p m k g cap s t d hd rv ev) (hl : LayHd hd c) (h : LB w q 109 (rpost f) f 0 0) (hl1 : f.ln = 4) (hu : uw f.fu) {B : Nat} {es : List Ev} (hev : OwnE w B ev es) (hn : es.length ≤ 900000) (hB : B ≤ w.heap.size) (hc : ¬ f.fn = 1) (hx : wrap64 (wrap64 (2 * f.fi) + 1) < wrap64 (f.fn - 1)) :
    Calls Tryz.prog 173 #[.pointer (some ⟨q, 0, none⟩), .pointer (some ⟨p, 0, none⟩)] w (ILineE B w p m k g cap (s.go 2 2 (fun _ => IntKind.u64.wrap (wrap64 (f.fn - 1)))) t d hd rv ev (es ++ [⟨13, f.fa, f.fu % 65536, 0, 0⟩]) q 109 rpost { f with ln := 5 } .none) := by
  have P0 := Lib.hid hp
  have B0 := Lib.hid h
  have F0 := Lib.hid (Fr.refl [m, g, q] w)
  have HL := Lib.hid hl
  clear hp h hl
  have HACC := Lib.hid (rem_accs P0.out B0.out (by decide))
  have HIN := Lib.hid hin
  have HU := Lib.hid hu
  have HV := Lib.hid hev
  have HN := Lib.hid hn
  have HB := Lib.hid hB
  clear hin hu hev hn hB
  have hd0 : (f.fn == 1) = false := by simpa using hc
  have HD0 := Lib.hid hd0
  clear hc hd0
  have HX := Lib.hid hx
  clear hx
  have hc0 := lline_any B0.out
  rw [hl1] at hc0
  have HC0 := Lib.hid hc0
  clear hc0
  go_enter Tryz.func173, Tryz.ntmps173
  go_wp2_with fail
  (with_reducible refine HC0.out.mono ?_)
  rintro e wx ⟨rfl, rfl⟩
  clear HC0
  go_wp2_with fail
  (with_reducible refine (hstoreLess_any (f := f) P0.out HL.out B0.out).mono ?_)
  rintro e W1 ⟨rfl, hp, hb, hf⟩
  have P1 := Lib.hid hp
  have B1 := Lib.hid hb
  have F1 := Lib.hid (F0.out.trans hf)
  clear hp hb hf
  clear P0 B0 F0
  have VV := Lib.hid (show OwnE W1.drew B ev es from (HV.out.accs F1.out HACC.out).below (below_drew (Below.refl _ _)))
  have HBB := Lib.hid (show B ≤ W1.drew.heap.size from Nat.le_trans HB.out F1.out.size)
  have HSZ := Lib.hid (show w.heap.size ≤ W1.drew.heap.size from F1.out.size)
  go_wp2_with fail
  have P2 := Lib.hid (P1.out.drewN 1)
  have B2 := Lib.hid B1.out.drew
  have F2 := Lib.hid F1.out.drew
  clear P1 B1 F1
  have d20 : W1.drew.cell? ⟨p, 20, none⟩ = some (.pointer (some ⟨m, 0, none⟩)) := P2.out.at20
  have d5 : W1.drew.cell? ⟨q, 5, none⟩ = some (.int .i64 f.fa) := B2.out.blk.at_ 5
  go_region_held3 (fun w' => w'.cell? ⟨p, 20, none⟩ = some (.pointer (some ⟨m, 0, none⟩)) ∧ w'.cell? ⟨q, 5, none⟩ = some (.int .i64 f.fa)) ((first | exact ⟨b20, b5⟩ | exact ⟨a20, a5⟩ | exact ⟨d20, d5⟩ | go_keep))
    (first
      | (go_at_call 180
         (with_reducible refine (rtask_any B2.out HU.out).mono ?_)
         rintro e wx ⟨rfl, rfl⟩
         skip)
      | (go_at_call 179
         refine (pemit2_any P2.out VV.out HN.out HBB.out _ _ _ _ _).mono ?_
         rintro e W3 ⟨ev1, rfl, hp, hov, hat, hf⟩
         have P3 := Lib.hid hp
         have V3 := Lib.hid hov
         have AT := Lib.hid hat
         have B3 := Lib.hid (B2.out.fr hf (by simp only [List.mem_cons, not_or]; exact ⟨(B2.out.ne P2.out).1, VV.out.nin B2.out.blk (by decide)⟩))
         have F3 := Lib.hid ((F2.out.mono (T := p :: m :: g :: q :: ev.ownBlock.toList) (by simp)).trans (hf.mono (by intro x hx; simp only [List.mem_cons] at hx ⊢; rcases hx with hx | hx; exact .inl hx; exact .inr (.inr (.inr (.inr hx))))))
         clear hp hov hat hf
         have b20 : W3.cell? ⟨p, 20, none⟩ = some (.pointer (some ⟨m, 0, none⟩)) := P3.out.at20
         have b5 : W3.cell? ⟨q, 5, none⟩ = some (.int .i64 f.fa) := B3.out.blk.at_ 5))
  clear d20 d5 b20 b5 P2 B2 F2
  have hd0 := HD0.out
  have c3 : W3.cell? ⟨q, 3, none⟩ = some (.int .i64 f.fn) := B3.out.blk.at_ 3
  go_wp2_with fail
  (with_reducible refine (rsink_y B3.out HX.out).mono ?_)
  rintro e W4 ⟨rfl, hb, hf⟩
  have P4 := Lib.hid (P3.out.lown B3.out hf)
  have V4 := Lib.hid (V3.out.accs hf (one_acc B3.out.blk (by decide)))
  have B4 := Lib.hid hb
  have F4 := Lib.hid (F3.out.trans (hf.mono (by simp)))
  clear hb hf
  clear c3
  clear P3 B3 F3
  go_wp2
  go_ret
  exact ⟨_, rfl, P4.out, V4.out, fun x hx => (AT.out x hx).imp id (fun h => Nat.le_trans HSZ.out h), B4.out, F4.out⟩
set_option maxRecDepth 100000 in
set_option maxHeartbeats 4000000 in
theorem remr_4n (hin : CfgIn c) (hp : PE w p m k g cap s t d hd rv ev) (hl : LayHd hd c) (h : LB w q 109 (rpost f) f 0 0) (hl1 : f.ln = 4) (hu : uw f.fu) {B : Nat} {es : List Ev} (hev : OwnE w B ev es) (hn : es.length ≤ 900000) (hB : B ≤ w.heap.size) (hc : ¬ f.fn = 1) (hx : ¬ wrap64 (wrap64 (2 * f.fi) + 1) < wrap64 (f.fn - 1)) :
    Calls Tryz.prog 173 #[.pointer (some ⟨q, 0, none⟩), .pointer (some ⟨p, 0, none⟩)] w (ILineE B w p m k g cap (s.go 2 2 (fun _ => IntKind.u64.wrap (wrap64 (f.fn - 1)))) t d hd rv ev (es ++ [⟨13, f.fa, f.fu % 65536, 0, 0⟩]) q 109 rpost { f with ln := 8 } .none) := by
  have P0 := Lib.hid hp
  have B0 := Lib.hid h
  have F0 := Lib.hid (Fr.refl [m, g, q] w)
  have HL := Lib.hid hl
  clear hp h hl
  have HACC := Lib.hid (rem_accs P0.out B0.out (by decide))
  have HIN := Lib.hid hin
  have HU := Lib.hid hu
  have HV := Lib.hid hev
  have HN := Lib.hid hn
  have HB := Lib.hid hB
  clear hin hu hev hn hB
  have hd0 : (f.fn == 1) = false := by simpa using hc
  have HD0 := Lib.hid hd0
  clear hc hd0
  have HX := Lib.hid hx
  clear hx
  have hc0 := lline_any B0.out
  rw [hl1] at hc0
  have HC0 := Lib.hid hc0
  clear hc0
  go_enter Tryz.func173, Tryz.ntmps173
  go_wp2_with fail
  (with_reducible refine HC0.out.mono ?_)
  rintro e wx ⟨rfl, rfl⟩
  clear HC0
  go_wp2_with fail
  (with_reducible refine (hstoreLess_any (f := f) P0.out HL.out B0.out).mono ?_)
  rintro e W1 ⟨rfl, hp, hb, hf⟩
  have P1 := Lib.hid hp
  have B1 := Lib.hid hb
  have F1 := Lib.hid (F0.out.trans hf)
  clear hp hb hf
  clear P0 B0 F0
  have VV := Lib.hid (show OwnE W1.drew B ev es from (HV.out.accs F1.out HACC.out).below (below_drew (Below.refl _ _)))
  have HBB := Lib.hid (show B ≤ W1.drew.heap.size from Nat.le_trans HB.out F1.out.size)
  have HSZ := Lib.hid (show w.heap.size ≤ W1.drew.heap.size from F1.out.size)
  go_wp2_with fail
  have P2 := Lib.hid (P1.out.drewN 1)
  have B2 := Lib.hid B1.out.drew
  have F2 := Lib.hid F1.out.drew
  clear P1 B1 F1
  have d20 : W1.drew.cell? ⟨p, 20, none⟩ = some (.pointer (some ⟨m, 0, none⟩)) := P2.out.at20
  have d5 : W1.drew.cell? ⟨q, 5, none⟩ = some (.int .i64 f.fa) := B2.out.blk.at_ 5
  go_region_held3 (fun w' => w'.cell? ⟨p, 20, none⟩ = some (.pointer (some ⟨m, 0, none⟩)) ∧ w'.cell? ⟨q, 5, none⟩ = some (.int .i64 f.fa)) ((first | exact ⟨b20, b5⟩ | exact ⟨a20, a5⟩ | exact ⟨d20, d5⟩ | go_keep))
    (first
      | (go_at_call 180
         (with_reducible refine (rtask_any B2.out HU.out).mono ?_)
         rintro e wx ⟨rfl, rfl⟩
         skip)
      | (go_at_call 179
         refine (pemit2_any P2.out VV.out HN.out HBB.out _ _ _ _ _).mono ?_
         rintro e W3 ⟨ev1, rfl, hp, hov, hat, hf⟩
         have P3 := Lib.hid hp
         have V3 := Lib.hid hov
         have AT := Lib.hid hat
         have B3 := Lib.hid (B2.out.fr hf (by simp only [List.mem_cons, not_or]; exact ⟨(B2.out.ne P2.out).1, VV.out.nin B2.out.blk (by decide)⟩))
         have F3 := Lib.hid ((F2.out.mono (T := p :: m :: g :: q :: ev.ownBlock.toList) (by simp)).trans (hf.mono (by intro x hx; simp only [List.mem_cons] at hx ⊢; rcases hx with hx | hx; exact .inl hx; exact .inr (.inr (.inr (.inr hx))))))
         clear hp hov hat hf
         have b20 : W3.cell? ⟨p, 20, none⟩ = some (.pointer (some ⟨m, 0, none⟩)) := P3.out.at20
         have b5 : W3.cell? ⟨q, 5, none⟩ = some (.int .i64 f.fa) := B3.out.blk.at_ 5))
  clear d20 d5 b20 b5 P2 B2 F2
  have hd0 := HD0.out
  have c3 : W3.cell? ⟨q, 3, none⟩ = some (.int .i64 f.fn) := B3.out.blk.at_ 3
  go_wp2_with fail
  (with_reducible refine (rsink_n B3.out (Int.not_lt.2 HX.out)).mono ?_)
  rintro e W4 ⟨rfl, hb, hf⟩
  have P4 := Lib.hid (P3.out.lown B3.out hf)
  have V4 := Lib.hid (V3.out.accs hf (one_acc B3.out.blk (by decide)))
  have B4 := Lib.hid hb
  have F4 := Lib.hid (F3.out.trans (hf.mono (by simp)))
  clear hb hf
  clear c3
  clear P3 B3 F3
  go_wp2
  go_ret
  exact ⟨_, rfl, P4.out, V4.out, fun x hx => (AT.out x hx).imp id (fun h => Nat.le_trans HSZ.out h), B4.out, F4.out⟩
set_option maxRecDepth 100000 in
/-- One that is done. -/
theorem remover_over {ty : TypeId} {post : List Value} {cd vl : Int} (h : LB w q ty post { f with ln := 0 } cd vl) (v : Value) :
    Calls Tryz.prog 173 #[.pointer (some ⟨q, 0, none⟩), v] w fun e w' => e = .returned (.bool true) ∧ w = w' := by
  have HC := Lib.hid (lline_any h)
  clear h
  go_enter Tryz.func173, Tryz.ntmps173
  go_wp2_with fail
  (with_reducible refine HC.out.mono ?_)
  rintro e wx ⟨rfl, rfl⟩
  go_wp2
  go_ret
  exact ⟨rfl, rfl⟩

end
end Go.Proofs.YtanbjdlaolgepaaGreat
