/-
  Package thief: the lines of Steal. (Written by wip/gen_own.py.)
  The cells of a deque, as a value's cells. No function and no type is named.
-/
import Derived.Test.YtjehiekmlbeaeaaGreatMgAC
import Derived.Test.YtjehiekmlbeaeaaGreatMgAA
namespace Go.Proofs.YtjehiekmlbeaeaaGreat
open Go Go.RowKit Go.Shelf
set_option linter.unusedSimpArgs false
set_option linter.unusedVariables false

section
variable {w : World} {p m k g cap : Nat} {s : St} {t d : Int} {hd : List Value} {rv ev : Value} {q : Nat} {f : Fra}

theorem i64_wrap64 (x : Int) : IntKind.i64.wrap x = wrap64 x := by
  rw [IntKind.wrap_i64]
  unfold wrap64
  omega
/-- What lies behind the shared cells is stored anew. -/
theorem OB.nine {w : World} {q : Nat} {ty : TypeId} {u v : Value} {f : Fra} {cd vl : Int} (h : OB w q ty [u] f cd vl) (y : Int) : OB (w.setCell ⟨q, 9, none⟩ v) q ty [v] { f with fw := y } cd vl := by
  refine ⟨?_, h.t1, h.t2, h.t3, h.t4⟩
  have hb := h.blk.put 9 v
  rw [List.setIfInBounds_toArray, List.set_append_right _ _ (by simp)] at hb
  exact hb

set_option maxRecDepth 100000 in
set_option maxHeartbeats 2000000 in
theorem stealer_1 (hp : PE w p m k g cap s t d hd rv ev) (h : OB w q 270 [.int .u64 f.fw] f 0 0) (hl : f.ln = 1) :
    Calls Tryz.prog 261 #[.pointer (some ⟨q, 0, none⟩), .pointer (some ⟨p, 0, none⟩)] w (PStepped w p m k g cap (s.go 1 f.qt id) t d hd rv ev q 270 [.int .u64 f.fw] { f with fv := s.old f.qt, ln := 2 } .none) := by
  have hqp : p ≠ q := (h.ne hp).1.symm
  have P0 := Lib.hid hp
  have B0 := Lib.hid h
  have F0 := Lib.hid (Fr.refl [m, g, q] w)
  clear hp h
  have hc0 := oline_any B0.out
  rw [hl] at hc0
  have HC0 := Lib.hid hc0
  clear hc0
  go_enter Tryz.func261, Tryz.ntmps261
  go_wp2_with fail
  (with_reducible refine HC0.out.mono ?_)
  rintro e wx ⟨rfl, rfl⟩
  clear HC0
  go_wp2_with fail
  (with_reducible refine (oloadTop_any P0.out B0.out).mono ?_)
  rintro e W1 ⟨rfl, hp, hb, hf⟩
  have P1 := Lib.hid hp
  have B1 := Lib.hid hb
  have F1 := Lib.hid (F0.out.trans hf)
  clear hp hb hf
  clear P0 B0 F0
  go_wp2_with fail
  (with_reducible refine (onext_any B1.out 2).mono ?_)
  rintro e W2 ⟨rfl, hb, hf⟩
  have P2 := Lib.hid (P1.out.own B1.out hf)
  have B2 := Lib.hid hb
  have F2 := Lib.hid (F1.out.trans (hf.mono (by simp)))
  clear hb hf
  clear P1 B1 F1
  go_wp2
  go_ret
  exact ⟨rfl, P2.out, B2.out, F2.out⟩
set_option maxRecDepth 100000 in
set_option maxHeartbeats 2000000 in
theorem stealer_2e (hp : PE w p m k g cap s t d hd rv ev) (h : OB w q 270 [.int .u64 f.fw] f 0 0) (hl : f.ln = 2) (hc : sizeI (s.old f.qb) f.fv ≤ 0) :
    Calls Tryz.prog 261 #[.pointer (some ⟨q, 0, none⟩), .pointer (some ⟨p, 0, none⟩)] w (PStepped w p m k g cap (s.go 1 f.qb id) t d hd rv ev q 270 [.int .u64 f.fw] { f with fu := s.old f.qb } ⟨true, 2, 0⟩) := by
  have hqp : p ≠ q := (h.ne hp).1.symm
  have P0 := Lib.hid hp
  have B0 := Lib.hid h
  have F0 := Lib.hid (Fr.refl [m, g, q] w)
  clear hp h
  have hc0 := oline_any B0.out
  rw [hl] at hc0
  have HC0 := Lib.hid hc0
  clear hc0
  go_enter Tryz.func261, Tryz.ntmps261
  go_wp2_with fail
  (with_reducible refine HC0.out.mono ?_)
  rintro e wx ⟨rfl, rfl⟩
  clear HC0
  have hcb : decide (sizeI (s.old f.qb) f.fv ≤ 0) = true := by simpa using hc
  go_wp2_with fail
  (with_reducible refine (oloadBottom_any P0.out B0.out).mono ?_)
  rintro e W1 ⟨rfl, hp, hb, hf⟩
  have P1 := Lib.hid hp
  have B1 := Lib.hid hb
  have F1 := Lib.hid (F0.out.trans hf)
  clear hp hb hf
  clear P0 B0 F0
  go_wp2_with fail
  have c7 : W1.cell? ⟨q, 7, none⟩ = some (.int .u64 (s.old f.qb)) := B1.out.at_ 7 (by omega)
  have hq := fun (n : Nat) => (osize_any (B1.out.drewN n) (s.old f.qb)).mono (fun e w' (h : e = .returned (.int .i64 (sizeI (s.old f.qb) (f.fv))) ∧ _ = w') => (⟨h.1, h.2.symm⟩ : e = .returned (.int .i64 (sizeI (s.old f.qb) (f.fv))) ∧ w' = _))
  go_quiet ((go_at_call 253; exact Calls.quiet_of_same (hq _)))
  have P2 := Lib.hid (P1.out.drewN nq)
  have B2 := Lib.hid (B1.out.drewN nq)
  have F2 := Lib.hid (F1.out.drewN nq)
  clear c7
  clear hq
  generalize W1.drewN nq = W2 at *
  clear P1 B1 F1
  go_wp2_with fail
  (with_reducible refine (oend_any B2.out 2 0).mono ?_)
  rintro e W3 ⟨rfl, hb, hf⟩
  have P3 := Lib.hid (P2.out.own B2.out hf)
  have B3 := Lib.hid hb
  have F3 := Lib.hid (F2.out.trans (hf.mono (by simp)))
  clear hb hf
  clear P2 B2 F2
  go_wp2
  go_ret
  exact ⟨rfl, P3.out, B3.out, F3.out⟩
set_option maxRecDepth 100000 in
set_option maxHeartbeats 2000000 in
theorem stealer_2 (hp : PE w p m k g cap s t d hd rv ev) (h : OB w q 270 [.int .u64 f.fw] f 0 0) (hl : f.ln = 2) (hc : ¬ sizeI (s.old f.qb) f.fv ≤ 0) :
    Calls Tryz.prog 261 #[.pointer (some ⟨q, 0, none⟩), .pointer (some ⟨p, 0, none⟩)] w (PStepped w p m k g cap (s.go 1 f.qb id) t d hd rv ev q 270 [.int .u64 f.fw] { f with fu := s.old f.qb, ln := 3 } .none) := by
  have hqp : p ≠ q := (h.ne hp).1.symm
  have P0 := Lib.hid hp
  have B0 := Lib.hid h
  have F0 := Lib.hid (Fr.refl [m, g, q] w)
  clear hp h
  have hc0 := oline_any B0.out
  rw [hl] at hc0
  have HC0 := Lib.hid hc0
  clear hc0
  go_enter Tryz.func261, Tryz.ntmps261
  go_wp2_with fail
  (with_reducible refine HC0.out.mono ?_)
  rintro e wx ⟨rfl, rfl⟩
  clear HC0
  have hcb : decide (sizeI (s.old f.qb) f.fv ≤ 0) = false := by simpa using hc
  go_wp2_with fail
  (with_reducible refine (oloadBottom_any P0.out B0.out).mono ?_)
  rintro e W1 ⟨rfl, hp, hb, hf⟩
  have P1 := Lib.hid hp
  have B1 := Lib.hid hb
  have F1 := Lib.hid (F0.out.trans hf)
  clear hp hb hf
  clear P0 B0 F0
  go_wp2_with fail
  have c7 : W1.cell? ⟨q, 7, none⟩ = some (.int .u64 (s.old f.qb)) := B1.out.at_ 7 (by omega)
  have hq := fun (n : Nat) => (osize_any (B1.out.drewN n) (s.old f.qb)).mono (fun e w' (h : e = .returned (.int .i64 (sizeI (s.old f.qb) (f.fv))) ∧ _ = w') => (⟨h.1, h.2.symm⟩ : e = .returned (.int .i64 (sizeI (s.old f.qb) (f.fv))) ∧ w' = _))
  go_quiet ((go_at_call 253; exact Calls.quiet_of_same (hq _)))
  have P2 := Lib.hid (P1.out.drewN nq)
  have B2 := Lib.hid (B1.out.drewN nq)
  have F2 := Lib.hid (F1.out.drewN nq)
  clear c7
  clear hq
  generalize W1.drewN nq = W2 at *
  clear P1 B1 F1
  go_wp2_with fail
  (with_reducible refine (onext_any B2.out 3).mono ?_)
  rintro e W3 ⟨rfl, hb, hf⟩
  have P3 := Lib.hid (P2.out.own B2.out hf)
  have B3 := Lib.hid hb
  have F3 := Lib.hid (F2.out.trans (hf.mono (by simp)))
  clear hb hf
  clear P2 B2 F2
  go_wp2
  go_ret
  exact ⟨rfl, P3.out, B3.out, F3.out⟩
set_option maxRecDepth 100000 in
set_option maxHeartbeats 2000000 in
theorem stealer_3 (hp : PE w p m k g cap s t d hd rv ev) (h : OB w q 270 [.int .u64 f.fw] f 0 0) (hl : f.ln = 3) (hv : 0 ≤ f.fv) (hqc : f.qc ≤ 9223372036854775807) :
    Calls Tryz.prog 261 #[.pointer (some ⟨q, 0, none⟩), .pointer (some ⟨p, 0, none⟩)] w (PStepped w p m k g cap (s.go 1 (ringI f.qr f.qc f.fv) id) t d hd rv ev q 270 [.int .u64 (s.old (ringI f.qr f.qc f.fv))] { f with fw := (s.old (ringI f.qr f.qc f.fv)), ln := 4 } .none) := by
  have hqp : p ≠ q := (h.ne hp).1.symm
  have P0 := Lib.hid hp
  have B0 := Lib.hid h
  have F0 := Lib.hid (Fr.refl [m, g, q] w)
  clear hp h
  have hc0 := oline_any B0.out
  rw [hl] at hc0
  have HC0 := Lib.hid hc0
  clear hc0
  go_enter Tryz.func261, Tryz.ntmps261
  go_wp2_with fail
  (with_reducible refine HC0.out.mono ?_)
  rintro e wx ⟨rfl, rfl⟩
  clear HC0
  go_wp2_with fail
  have P1 := Lib.hid (P0.out.drewN 1)
  have B1 := Lib.hid B0.out.drew
  have F1 := Lib.hid F0.out.drew
  clear P0 B0 F0
  have d20 : w.drew.cell? ⟨p, 20, none⟩ = some (.pointer (some ⟨m, 0, none⟩)) := P1.out.at20
  have d8 : w.drew.cell? ⟨q, 8, none⟩ = some (.int .u64 f.fv) := B1.out.at_ 8 (by omega)
  go_region_held3 (fun w' => w'.cell? ⟨p, 20, none⟩ = some (.pointer (some ⟨m, 0, none⟩)) ∧ w'.cell? ⟨q, 8, none⟩ = some (.int .u64 f.fv)) ((first | exact ⟨e20, e8⟩ | exact ⟨b20, b8⟩ | exact ⟨a20, a8⟩ | exact ⟨d20, d8⟩ | go_keep))
    (first
      | (go_at_call 254
         refine (ocell_any B1.out _ hv hqc).mono ?_
         rintro e W2 ⟨rfl, hb⟩
         have P2 := Lib.hid (P1.out.below hb)
         have B2 := Lib.hid (B1.out.below hb)
         have F2 := Lib.hid (F1.out.trans (Fr.old hb))
         clear hb
         have a20 : W2.cell? ⟨p, 20, none⟩ = some (.pointer (some ⟨m, 0, none⟩)) := P2.out.at20
         have a8 : W2.cell? ⟨q, 8, none⟩ = some (.int .u64 f.fv) := B2.out.at_ 8 (by omega))
      | (go_at_call 242
         refine (load_any P2.out.mem _).mono ?_
         rintro e W3 ⟨rfl, hm, hf⟩
         have P3 := Lib.hid (P2.out.acc hm hf)
         have B3 := Lib.hid (B2.out.acc P2.out hf)
         have F3 := Lib.hid (F2.out.trans (hf.mono (by simp)))
         clear hm hf
         have b20 : W3.cell? ⟨p, 20, none⟩ = some (.pointer (some ⟨m, 0, none⟩)) := P3.out.at20
         have b8 : W3.cell? ⟨q, 8, none⟩ = some (.int .u64 f.fv) := B3.out.at_ 8 (by omega)
         have c9 : W3.cell? ⟨q, 9, none⟩ = some (.int .u64 f.fw) := B3.out.blk.at_ 9
         have f9 := B3.out.free 9
         have e20 : (W3.setCell ⟨q, 9, none⟩ (.int .u64 (s.old (ringI f.qr f.qc f.fv)))).cell? ⟨p, 20, none⟩ = some (.pointer (some ⟨m, 0, none⟩)) := by rw [World.cell?_setCell_other _ _ _ _ (by simp [hqp])]; exact b20
         have e8 : (W3.setCell ⟨q, 9, none⟩ (.int .u64 (s.old (ringI f.qr f.qc f.fv)))).cell? ⟨q, 8, none⟩ = some (.int .u64 f.fv) := by rw [World.cell?_setCell_other _ _ _ _ (by simp)]; exact b8))
  clear d20 d8 a20 a8 b20 b8 P1 B1 F1 P2 B2 F2
  clear c9 f9 e20 e8
  have hs : Fr [q] W3 (W3.setCell ⟨q, 9, none⟩ (.int .u64 (s.old (ringI f.qr f.qc f.fv)))) := (Fr.refl _ _).setCell (by simp) _
  have P4 := Lib.hid (P3.out.own B3.out hs)
  have B4 := Lib.hid (B3.out.nine (v := .int .u64 (s.old (ringI f.qr f.qc f.fv))) (s.old (ringI f.qr f.qc f.fv)))
  have F4 := Lib.hid (F3.out.trans (hs.mono (by simp)))
  clear hs P3 B3 F3
  generalize W3.setCell ⟨q, 9, none⟩ (.int .u64 (s.old (ringI f.qr f.qc f.fv))) = W4 at *
  go_wp2_with fail
  (with_reducible refine (onext_any B4.out 4).mono ?_)
  rintro e W5 ⟨rfl, hb, hf⟩
  have P5 := Lib.hid (P4.out.own B4.out hf)
  have B5 := Lib.hid hb
  have F5 := Lib.hid (F4.out.trans (hf.mono (by simp)))
  clear hb hf
  clear P4 B4 F4
  go_wp2
  go_ret
  exact ⟨rfl, P5.out, B5.out, F5.out⟩
set_option maxRecDepth 100000 in
set_option maxHeartbeats 2000000 in
theorem stealer_4t (hp : PE w p m k g cap s t d hd rv ev) (h : OB w q 270 [.int .u64 f.fw] f 0 0) (hl : f.ln = 4) (hh : s.hit f.qt f.fv = true) :
    Calls Tryz.prog 261 #[.pointer (some ⟨q, 0, none⟩), .pointer (some ⟨p, 0, none⟩)] w (PStepped w p m k g cap (s.go 3 f.qt (fun x => if x = f.fv then add1 f.fv else x)) t d hd rv ev q 270 [.int .u64 f.fw] f ⟨true, 1, IntKind.i64.wrap f.fw⟩) := by
  have hqp : p ≠ q := (h.ne hp).1.symm
  have P0 := Lib.hid hp
  have B0 := Lib.hid h
  have F0 := Lib.hid (Fr.refl [m, g, q] w)
  clear hp h
  have hc0 := oline_any B0.out
  rw [hl] at hc0
  have HC0 := Lib.hid hc0
  clear hc0
  go_enter Tryz.func261, Tryz.ntmps261
  go_wp2_with fail
  (with_reducible refine HC0.out.mono ?_)
  rintro e wx ⟨rfl, rfl⟩
  clear HC0
  have HH := Lib.hid hh
  clear hh
  go_wp2_with fail
  have P1 := Lib.hid (P0.out.drewN 1)
  have B1 := Lib.hid B0.out.drew
  have F1 := Lib.hid F0.out.drew
  clear P0 B0 F0
  have d20 : w.drew.cell? ⟨p, 20, none⟩ = some (.pointer (some ⟨m, 0, none⟩)) := P1.out.at20
  have d3 : w.drew.cell? ⟨q, 3, none⟩ = some (.int .i64 f.qt) := B1.out.at_ 3 (by omega)
  have d8 : w.drew.cell? ⟨q, 8, none⟩ = some (.int .u64 f.fv) := B1.out.at_ 8 (by omega)
  go_region_held3 (fun w' => w'.cell? ⟨p, 20, none⟩ = some (.pointer (some ⟨m, 0, none⟩)) ∧ w'.cell? ⟨q, 3, none⟩ = some (.int .i64 f.qt) ∧ w'.cell? ⟨q, 8, none⟩ = some (.int .u64 f.fv)) ((first | exact ⟨a20, a3, a8⟩ | exact ⟨d20, d3, d8⟩ | go_keep))
    ((go_at_call 258
      refine (cas_any P1.out.mem _ _ _).mono ?_
      rintro e W2 ⟨rfl, hm, hf⟩
      have P2 := Lib.hid (P1.out.acc hm hf)
      have B2 := Lib.hid (B1.out.acc P1.out hf)
      have F2 := Lib.hid (F1.out.trans (hf.mono (by simp)))
      clear hm hf
      have a20 : W2.cell? ⟨p, 20, none⟩ = some (.pointer (some ⟨m, 0, none⟩)) := P2.out.at20
      have a3 : W2.cell? ⟨q, 3, none⟩ = some (.int .i64 f.qt) := B2.out.at_ 3 (by omega)
      have a8 : W2.cell? ⟨q, 8, none⟩ = some (.int .u64 f.fv) := B2.out.at_ 8 (by omega)))
  clear d20 d3 d8 a20 a3 a8 P1 B1 F1
  rw [HH.out]
  go_wp2_with fail
  have P3 := Lib.hid (P2.out.drewN 1)
  have B3 := Lib.hid B2.out.drew
  have F3 := Lib.hid F2.out.drew
  clear P2 B2 F2
  have d9 : W2.drew.cell? ⟨q, 9, none⟩ = some (.int .u64 f.fw) := B3.out.blk.at_ 9
  go_region_held3 (fun w' => w'.cell? ⟨q, 9, none⟩ = some (.int .u64 f.fw)) ((first | exact a9 | exact d9 | go_keep))
    ((go_at_call 230
      refine (oend_any B3.out _ _).mono ?_
      rintro e W4 ⟨rfl, hb, hf⟩
      have P4 := Lib.hid (P3.out.own B3.out hf)
      have B4 := Lib.hid hb
      have F4 := Lib.hid (F3.out.trans (hf.mono (by simp)))
      clear hb hf
      have a9 : W4.cell? ⟨q, 9, none⟩ = some (.int .u64 f.fw) := B4.out.blk.at_ 9))
  clear d9 a9 P3 B3 F3
  go_wp2
  go_ret
  exact ⟨rfl, P4.out, B4.out, F4.out⟩
set_option maxRecDepth 100000 in
set_option maxHeartbeats 2000000 in
theorem stealer_4f (hp : PE w p m k g cap s t d hd rv ev) (h : OB w q 270 [.int .u64 f.fw] f 0 0) (hl : f.ln = 4) (hh : s.hit f.qt f.fv = false) :
    Calls Tryz.prog 261 #[.pointer (some ⟨q, 0, none⟩), .pointer (some ⟨p, 0, none⟩)] w (PStepped w p m k g cap (s.go 3 f.qt (fun x => if x = f.fv then add1 f.fv else x)) t d hd rv ev q 270 [.int .u64 f.fw] f ⟨true, 4, 0⟩) := by
  have hqp : p ≠ q := (h.ne hp).1.symm
  have P0 := Lib.hid hp
  have B0 := Lib.hid h
  have F0 := Lib.hid (Fr.refl [m, g, q] w)
  clear hp h
  have hc0 := oline_any B0.out
  rw [hl] at hc0
  have HC0 := Lib.hid hc0
  clear hc0
  go_enter Tryz.func261, Tryz.ntmps261
  go_wp2_with fail
  (with_reducible refine HC0.out.mono ?_)
  rintro e wx ⟨rfl, rfl⟩
  clear HC0
  have HH := Lib.hid hh
  clear hh
  go_wp2_with fail
  have P1 := Lib.hid (P0.out.drewN 1)
  have B1 := Lib.hid B0.out.drew
  have F1 := Lib.hid F0.out.drew
  clear P0 B0 F0
  have d20 : w.drew.cell? ⟨p, 20, none⟩ = some (.pointer (some ⟨m, 0, none⟩)) := P1.out.at20
  have d3 : w.drew.cell? ⟨q, 3, none⟩ = some (.int .i64 f.qt) := B1.out.at_ 3 (by omega)
  have d8 : w.drew.cell? ⟨q, 8, none⟩ = some (.int .u64 f.fv) := B1.out.at_ 8 (by omega)
  go_region_held3 (fun w' => w'.cell? ⟨p, 20, none⟩ = some (.pointer (some ⟨m, 0, none⟩)) ∧ w'.cell? ⟨q, 3, none⟩ = some (.int .i64 f.qt) ∧ w'.cell? ⟨q, 8, none⟩ = some (.int .u64 f.fv)) ((first | exact ⟨a20, a3, a8⟩ | exact ⟨d20, d3, d8⟩ | go_keep))
    ((go_at_call 258
      refine (cas_any P1.out.mem _ _ _).mono ?_
      rintro e W2 ⟨rfl, hm, hf⟩
      have P2 := Lib.hid (P1.out.acc hm hf)
      have B2 := Lib.hid (B1.out.acc P1.out hf)
      have F2 := Lib.hid (F1.out.trans (hf.mono (by simp)))
      clear hm hf
      have a20 : W2.cell? ⟨p, 20, none⟩ = some (.pointer (some ⟨m, 0, none⟩)) := P2.out.at20
      have a3 : W2.cell? ⟨q, 3, none⟩ = some (.int .i64 f.qt) := B2.out.at_ 3 (by omega)
      have a8 : W2.cell? ⟨q, 8, none⟩ = some (.int .u64 f.fv) := B2.out.at_ 8 (by omega)))
  clear d20 d3 d8 a20 a3 a8 P1 B1 F1
  rw [HH.out]
  go_wp2_with fail
  (with_reducible refine (oend_any B2.out 4 0).mono ?_)
  rintro e W3 ⟨rfl, hb, hf⟩
  have P3 := Lib.hid (P2.out.own B2.out hf)
  have B3 := Lib.hid hb
  have F3 := Lib.hid (F2.out.trans (hf.mono (by simp)))
  clear hb hf
  clear P2 B2 F2
  go_wp2
  go_ret
  exact ⟨rfl, P3.out, B3.out, F3.out⟩
set_option maxRecDepth 100000 in
/-- A stealer that is done. -/
theorem stealer_over {ty : TypeId} {post : List Value} {cd vl : Int} (h : OB w q ty post { f with ln := 0 } cd vl) (v : Value) :
    Calls Tryz.prog 261 #[.pointer (some ⟨q, 0, none⟩), v] w fun e w' => e = .returned (.bool true) ∧ w = w' := by
  have HC := Lib.hid (oline_any h)
  clear h
  go_enter Tryz.func261, Tryz.ntmps261
  go_wp2_with fail
  (with_reducible refine HC.out.mono ?_)
  rintro e wx ⟨rfl, rfl⟩
  go_wp2
  go_ret
  exact ⟨rfl, rfl⟩
theorem stealer_any (hp : PE w p m k g cap s t d hd rv ev) (h : OB w q 270 [.int .u64 f.fw] f 0 0) (hl : f.ln = 1 ∨ f.ln = 2 ∨ f.ln = 3 ∨ f.ln = 4) (hv : 0 ≤ f.fv) (hqc : f.qc ≤ 9223372036854775807) :
    Calls Tryz.prog 261 #[.pointer (some ⟨q, 0, none⟩), .pointer (some ⟨p, 0, none⟩)] w (PStepped w p m k g cap (stealS s f).1 t d hd rv ev q 270 [.int .u64 (stealS s f).2.1.fw] (stealS s f).2.1 (stealS s f).2.2) := by
  rcases hl with hl | hl | hl | hl
  · rw [stealS, if_pos hl]
    exact stealer_1 hp h hl
  · rw [stealS, if_neg (show ¬ f.ln = 1 by omega), if_pos hl]
    by_cases hc : sizeI (s.old f.qb) f.fv ≤ 0
    · rw [if_pos hc]
      exact stealer_2e hp h hl hc
    · rw [if_neg hc]
      exact stealer_2 hp h hl hc
  · rw [stealS, if_neg (show ¬ f.ln = 1 by omega), if_neg (show ¬ f.ln = 2 by omega), if_pos hl]
    exact stealer_3 hp h hl hv hqc
  · rw [stealS, if_neg (show ¬ f.ln = 1 by omega), if_neg (show ¬ f.ln = 2 by omega), if_neg (show ¬ f.ln = 3 by omega), ← i64_wrap64]
    cases hh : s.hit f.qt f.fv with
    | true => exact stealer_4t hp h hl hh
    | false => exact stealer_4f hp h hl hh
end
end Go.Proofs.YtjehiekmlbeaeaaGreat

namespace Go.Proofs.YtjehiekmlbeaeaaGreat
open Go Go.RowKit
abbrev qcells (t b r k : Int) : Array Value := #[.int .i64 t, .int .i64 b, .int .i64 r, .int .i64 k]
end Go.Proofs.YtjehiekmlbeaeaaGreat
