/-
  Package owner: the lines of Pop. (Written by wip/gen_own.py.)
-/
import Derived.Test.YtheimjcgpbmecaaGreatMgBI
import Derived.Test.YtheimjcgpbmecaaGreatMgBH
namespace Go.Proofs.YtheimjcgpbmecaaGreat
open Go Go.RowKit Go.Shelf
set_option linter.unusedSimpArgs false
set_option linter.unusedVariables false

section
variable {w : World} {p m k g cap : Nat} {s : St} {t d : Int} {hd : List Value} {rv ev : Value} {q : Nat} {f : Fra}

set_option maxHeartbeats 2000000 in
theorem chosen_any {ty : TypeId} {post : List Value} {cd vl : Int} (h : OB w q ty post f cd vl) :
    Calls Tryz.prog 244 #[.pointer (some ⟨q, 0, none⟩)] w fun e w' => e = .returned (.int .i64 (pop4 (sizeI (sub1 f.fu) f.fv))) ∧ Below w.heap.size w w' := by
  have c4 : w.cell? ⟨q, 7, none⟩ = some (.int .u64 f.fu) := h.at_ 7 (by omega)
  have hq := fun (n : Nat) => (osize_any (h.drewN n) (sub1 f.fu)).mono (fun e w' (h : e = .returned (.int .i64 (sizeI (sub1 f.fu) f.fv)) ∧ _ = w') => (⟨h.1, h.2.symm⟩ : e = .returned (.int .i64 (sizeI (sub1 f.fu) f.fv)) ∧ w' = _))
  have HB := Lib.hid (fun n => below_drewN w n)
  clear h
  generalize sizeI (sub1 f.fu) f.fv = z at *
  unfold pop4
  rcases Int.lt_trichotomy z 0 with hz | hz | hz
  · rw [if_neg (by omega), if_pos hz]
    have hz0 : (z == 0) = false := by simp; omega
    go_enter Tryz.func244, Tryz.ntmps244
    go_wp2_with fail
    go_quiet ((go_at_call 235; exact Calls.quiet_of_same (hq _)))
    go_wp2
    go_ret
    exact ⟨rfl, HB.out _⟩
  · subst hz
    rw [if_pos rfl]
    go_enter Tryz.func244, Tryz.ntmps244
    go_wp2_with fail
    go_quiet ((go_at_call 235; exact Calls.quiet_of_same (hq _)))
    go_wp2
    go_ret
    exact ⟨rfl, HB.out _⟩
  · rw [if_neg (by omega), if_neg (by omega)]
    go_enter Tryz.func244, Tryz.ntmps244
    go_wp2_with fail
    go_quiet ((go_at_call 235; exact Calls.quiet_of_same (hq _)))
    go_wp2
    go_ret
    exact ⟨rfl, HB.out _⟩

set_option maxRecDepth 100000 in
set_option maxHeartbeats 2000000 in
theorem popper_1 (hp : PE w p m k g cap s t d hd rv ev) (h : OB w q 270 [] f 0 0) (hl : f.ln = 1) :
    Calls Tryz.prog 243 #[.pointer (some ⟨q, 0, none⟩), .pointer (some ⟨p, 0, none⟩)] w (PStepped w p m k g cap (s.go 1 f.qb id) t d hd rv ev q 270 [] { f with fu := s.old f.qb, ln := 2 } .none) := by
  have hqp : p ≠ q := (h.ne hp).1.symm
  have P0 := Lib.hid hp
  have B0 := Lib.hid h
  have F0 := Lib.hid (Fr.refl [m, g, q] w)
  clear hp h
  have hc0 := oline_any B0.out
  rw [hl] at hc0
  have HC0 := Lib.hid hc0
  clear hc0
  go_enter Tryz.func243, Tryz.ntmps243
  go_wp2_with fail
  (with_reducible refine HC0.out.mono ?_)
  rintro e wx ⟨rfl, rfl⟩
  clear HC0
  go_wp2_with fail
  (with_reducible refine (oloadBottom_any P0.out B0.out).mono ?_)
  rintro e W1 ⟨rfl, hp, hb, hf⟩
  have P1 := Lib.hid hp
  have B1 := Lib.hid hb
  have F1 := Lib.hid (F0.out.trans hf)
  clear hp hb hf
  clear P0 B0 F0
  go_wp2_with fail
  (with_reducible refine (onext_any B1.out 2).mono ?_)
  rintro e W2 ⟨rfl, hb, hf⟩
  have P2 := Lib.hid (P1.out.own B1.out hf)
  have B2 := Lib.hid hb
  have F2 := Lib.hid (F1.out.trans (hf.mono (by simp)))
  clear hb hf
  clear P1 B1 F1
  go_wp2
  go_ret
  exact ⟨rfl, P2.out, B2.out, F2.out⟩
set_option maxRecDepth 100000 in
set_option maxHeartbeats 2000000 in
theorem popper_2e (hp : PE w p m k g cap s t d hd rv ev) (h : OB w q 270 [] f 0 0) (hl : f.ln = 2) (hc : sizeI f.fu (s.old f.qt) ≤ 0) :
    Calls Tryz.prog 243 #[.pointer (some ⟨q, 0, none⟩), .pointer (some ⟨p, 0, none⟩)] w (PStepped w p m k g cap (s.go 1 f.qt id) t d hd rv ev q 270 [] { f with fv := s.old f.qt } ⟨true, 2, 0⟩) := by
  have hqp : p ≠ q := (h.ne hp).1.symm
  have P0 := Lib.hid hp
  have B0 := Lib.hid h
  have F0 := Lib.hid (Fr.refl [m, g, q] w)
  clear hp h
  have hc0 := oline_any B0.out
  rw [hl] at hc0
  have HC0 := Lib.hid hc0
  clear hc0
  go_enter Tryz.func243, Tryz.ntmps243
  go_wp2_with fail
  (with_reducible refine HC0.out.mono ?_)
  rintro e wx ⟨rfl, rfl⟩
  clear HC0
  have hcb : decide (sizeI f.fu (s.old f.qt) ≤ 0) = true := by simpa using hc
  go_wp2_with fail
  (with_reducible refine (oloadTop_any P0.out B0.out).mono ?_)
  rintro e W1 ⟨rfl, hp, hb, hf⟩
  have P1 := Lib.hid hp
  have B1 := Lib.hid hb
  have F1 := Lib.hid (F0.out.trans hf)
  clear hp hb hf
  clear P0 B0 F0
  go_wp2_with fail
  have c7 : W1.cell? ⟨q, 7, none⟩ = some (.int .u64 f.fu) := B1.out.at_ 7 (by omega)
  have hq := fun (n : Nat) => (osize_any (B1.out.drewN n) (f.fu)).mono (fun e w' (h : e = .returned (.int .i64 (sizeI (f.fu) (s.old f.qt))) ∧ _ = w') => (⟨h.1, h.2.symm⟩ : e = .returned (.int .i64 (sizeI (f.fu) (s.old f.qt))) ∧ w' = _))
  go_quiet ((go_at_call 235; exact Calls.quiet_of_same (hq _)))
  have P2 := Lib.hid (P1.out.drewN nq)
  have B2 := Lib.hid (B1.out.drewN nq)
  have F2 := Lib.hid (F1.out.drewN nq)
  clear c7
  clear hq
  generalize W1.drewN nq = W2 at *
  clear P1 B1 F1
  go_wp2_with fail
  (with_reducible refine (oend_any B2.out 2 0).mono ?_)
  rintro e W3 ⟨rfl, hb, hf⟩
  have P3 := Lib.hid (P2.out.own B2.out hf)
  have B3 := Lib.hid hb
  have F3 := Lib.hid (F2.out.trans (hf.mono (by simp)))
  clear hb hf
  clear P2 B2 F2
  go_wp2
  go_ret
  exact ⟨rfl, P3.out, B3.out, F3.out⟩
set_option maxRecDepth 100000 in
set_option maxHeartbeats 2000000 in
theorem popper_2 (hp : PE w p m k g cap s t d hd rv ev) (h : OB w q 270 [] f 0 0) (hl : f.ln = 2) (hc : ¬ sizeI f.fu (s.old f.qt) ≤ 0) :
    Calls Tryz.prog 243 #[.pointer (some ⟨q, 0, none⟩), .pointer (some ⟨p, 0, none⟩)] w (PStepped w p m k g cap (s.go 1 f.qt id) t d hd rv ev q 270 [] { f with fv := s.old f.qt, ln := 3 } .none) := by
  have hqp : p ≠ q := (h.ne hp).1.symm
  have P0 := Lib.hid hp
  have B0 := Lib.hid h
  have F0 := Lib.hid (Fr.refl [m, g, q] w)
  clear hp h
  have hc0 := oline_any B0.out
  rw [hl] at hc0
  have HC0 := Lib.hid hc0
  clear hc0
  go_enter Tryz.func243, Tryz.ntmps243
  go_wp2_with fail
  (with_reducible refine HC0.out.mono ?_)
  rintro e wx ⟨rfl, rfl⟩
  clear HC0
  have hcb : decide (sizeI f.fu (s.old f.qt) ≤ 0) = false := by simpa using hc
  go_wp2_with fail
  (with_reducible refine (oloadTop_any P0.out B0.out).mono ?_)
  rintro e W1 ⟨rfl, hp, hb, hf⟩
  have P1 := Lib.hid hp
  have B1 := Lib.hid hb
  have F1 := Lib.hid (F0.out.trans hf)
  clear hp hb hf
  clear P0 B0 F0
  go_wp2_with fail
  have c7 : W1.cell? ⟨q, 7, none⟩ = some (.int .u64 f.fu) := B1.out.at_ 7 (by omega)
  have hq := fun (n : Nat) => (osize_any (B1.out.drewN n) (f.fu)).mono (fun e w' (h : e = .returned (.int .i64 (sizeI (f.fu) (s.old f.qt))) ∧ _ = w') => (⟨h.1, h.2.symm⟩ : e = .returned (.int .i64 (sizeI (f.fu) (s.old f.qt))) ∧ w' = _))
  go_quiet ((go_at_call 235; exact Calls.quiet_of_same (hq _)))
  have P2 := Lib.hid (P1.out.drewN nq)
  have B2 := Lib.hid (B1.out.drewN nq)
  have F2 := Lib.hid (F1.out.drewN nq)
  clear c7
  clear hq
  generalize W1.drewN nq = W2 at *
  clear P1 B1 F1
  go_wp2_with fail
  (with_reducible refine (onext_any B2.out 3).mono ?_)
  rintro e W3 ⟨rfl, hb, hf⟩
  have P3 := Lib.hid (P2.out.own B2.out hf)
  have B3 := Lib.hid hb
  have F3 := Lib.hid (F2.out.trans (hf.mono (by simp)))
  clear hb hf
  clear P2 B2 F2
  go_wp2
  go_ret
  exact ⟨rfl, P3.out, B3.out, F3.out⟩
set_option maxRecDepth 100000 in
set_option maxHeartbeats 2000000 in
theorem popper_3 (hp : PE w p m k g cap s t d hd rv ev) (h : OB w q 270 [] f 0 0) (hl : f.ln = 3) :
    Calls Tryz.prog 243 #[.pointer (some ⟨q, 0, none⟩), .pointer (some ⟨p, 0, none⟩)] w (PStepped w p m k g cap (s.go 2 f.qb (fun _ => sub1 f.fu)) t d hd rv ev q 270 [] { f with ln := 4 } .none) := by
  have hqp : p ≠ q := (h.ne hp).1.symm
  have P0 := Lib.hid hp
  have B0 := Lib.hid h
  have F0 := Lib.hid (Fr.refl [m, g, q] w)
  clear hp h
  have hc0 := oline_any B0.out
  rw [hl] at hc0
  have HC0 := Lib.hid hc0
  clear hc0
  go_enter Tryz.func243, Tryz.ntmps243
  go_wp2_with fail
  (with_reducible refine HC0.out.mono ?_)
  rintro e wx ⟨rfl, rfl⟩
  clear HC0
  go_wp2_with fail
  have P1 := Lib.hid (P0.out.drewN 1)
  have B1 := Lib.hid B0.out.drew
  have F1 := Lib.hid F0.out.drew
  clear P0 B0 F0
  have d20 : w.drew.cell? ⟨p, 20, none⟩ = some (.pointer (some ⟨m, 0, none⟩)) := P1.out.at20
  have d4 : w.drew.cell? ⟨q, 4, none⟩ = some (.int .i64 f.qb) := B1.out.at_ 4 (by omega)
  have d7 : w.drew.cell? ⟨q, 7, none⟩ = some (.int .u64 f.fu) := B1.out.at_ 7 (by omega)
  go_region_held3 (fun w' => w'.cell? ⟨p, 20, none⟩ = some (.pointer (some ⟨m, 0, none⟩)) ∧ w'.cell? ⟨q, 4, none⟩ = some (.int .i64 f.qb) ∧ w'.cell? ⟨q, 7, none⟩ = some (.int .u64 f.fu)) ((first | exact ⟨a20, a4, a7⟩ | exact ⟨d20, d4, d7⟩ | go_keep))
    ((go_at_call 16
      refine (store_any P1.out.mem _ _).mono ?_
      rintro e W2 ⟨rfl, hm, hf⟩
      have P2 := Lib.hid (P1.out.acc hm hf)
      have B2 := Lib.hid (B1.out.acc P1.out hf)
      have F2 := Lib.hid (F1.out.trans (hf.mono (by simp)))
      clear hm hf
      have a20 : W2.cell? ⟨p, 20, none⟩ = some (.pointer (some ⟨m, 0, none⟩)) := P2.out.at20
      have a4 : W2.cell? ⟨q, 4, none⟩ = some (.int .i64 f.qb) := B2.out.at_ 4 (by omega)
      have a7 : W2.cell? ⟨q, 7, none⟩ = some (.int .u64 f.fu) := B2.out.at_ 7 (by omega)))
  clear d20 d4 d7 a20 a4 a7 P1 B1 F1
  go_wp2_with fail
  (with_reducible refine (onext_any B2.out 4).mono ?_)
  rintro e W3 ⟨rfl, hb, hf⟩
  have P3 := Lib.hid (P2.out.own B2.out hf)
  have B3 := Lib.hid hb
  have F3 := Lib.hid (F2.out.trans (hf.mono (by simp)))
  clear hb hf
  clear P2 B2 F2
  go_wp2
  go_ret
  exact ⟨rfl, P3.out, B3.out, F3.out⟩
set_option maxRecDepth 100000 in
set_option maxHeartbeats 2000000 in
theorem popper_4 (hp : PE w p m k g cap s t d hd rv ev) (h : OB w q 270 [] f 0 0) (hl : f.ln = 4) :
    Calls Tryz.prog 243 #[.pointer (some ⟨q, 0, none⟩), .pointer (some ⟨p, 0, none⟩)] w (PStepped w p m k g cap (s.go 1 f.qt id) t d hd rv ev q 270 [] { f with fv := s.old f.qt, ln := pop4 (sizeI (sub1 f.fu) (s.old f.qt)) } .none) := by
  have hqp : p ≠ q := (h.ne hp).1.symm
  have P0 := Lib.hid hp
  have B0 := Lib.hid h
  have F0 := Lib.hid (Fr.refl [m, g, q] w)
  clear hp h
  have hc0 := oline_any B0.out
  rw [hl] at hc0
  have HC0 := Lib.hid hc0
  clear hc0
  go_enter Tryz.func243, Tryz.ntmps243
  go_wp2_with fail
  (with_reducible refine HC0.out.mono ?_)
  rintro e wx ⟨rfl, rfl⟩
  clear HC0
  go_wp2_with fail
  (with_reducible refine (oloadTop_any P0.out B0.out).mono ?_)
  rintro e W1 ⟨rfl, hp, hb, hf⟩
  have P1 := Lib.hid hp
  have B1 := Lib.hid hb
  have F1 := Lib.hid (F0.out.trans hf)
  clear hp hb hf
  clear P0 B0 F0
  go_wp2_with fail
  have P2 := Lib.hid (P1.out.drewN 1)
  have B2 := Lib.hid B1.out.drew
  have F2 := Lib.hid F1.out.drew
  clear P1 B1 F1
  have d20 : W1.drew.cell? ⟨p, 20, none⟩ = some (.pointer (some ⟨m, 0, none⟩)) := P2.out.at20
  go_region_held3 (fun w' => w'.cell? ⟨p, 20, none⟩ = some (.pointer (some ⟨m, 0, none⟩))) ((first | exact b20 | exact a20 | exact d20 | go_keep))
    (first
      | (go_at_call 244
         refine (chosen_any B2.out).mono ?_
         rintro e W3 ⟨rfl, hb⟩
         have P3 := Lib.hid (P2.out.below hb)
         have B3 := Lib.hid (B2.out.below hb)
         have F3 := Lib.hid (F2.out.trans (Fr.old hb))
         clear hb
         have a20 : W3.cell? ⟨p, 20, none⟩ = some (.pointer (some ⟨m, 0, none⟩)) := P3.out.at20)
      | (go_at_call 200
         refine (onext_any B3.out _).mono ?_
         rintro e W4 ⟨rfl, hb, hf⟩
         have P4 := Lib.hid (P3.out.own B3.out hf)
         have B4 := Lib.hid hb
         have F4 := Lib.hid (F3.out.trans (hf.mono (by simp)))
         clear hb hf
         have b20 : W4.cell? ⟨p, 20, none⟩ = some (.pointer (some ⟨m, 0, none⟩)) := P4.out.at20))
  clear d20 a20 b20 P2 B2 F2 P3 B3 F3
  go_wp2
  go_ret
  exact ⟨rfl, P4.out, B4.out, F4.out⟩
set_option maxRecDepth 100000 in
set_option maxHeartbeats 2000000 in
theorem popper_5 (hp : PE w p m k g cap s t d hd rv ev) (h : OB w q 270 [] f 0 0) (hl : f.ln = 5) (hqc : f.qc ≤ 9223372036854775807) :
    Calls Tryz.prog 243 #[.pointer (some ⟨q, 0, none⟩), .pointer (some ⟨p, 0, none⟩)] w (PStepped w p m k g cap (s.go 1 (ringI f.qr f.qc (sub1 f.fu)) id) t d hd rv ev q 270 [] f ⟨true, 1, IntKind.i64.wrap (s.old (ringI f.qr f.qc (sub1 f.fu)))⟩) := by
  have hqp : p ≠ q := (h.ne hp).1.symm
  have P0 := Lib.hid hp
  have B0 := Lib.hid h
  have F0 := Lib.hid (Fr.refl [m, g, q] w)
  clear hp h
  have hc0 := oline_any B0.out
  rw [hl] at hc0
  have HC0 := Lib.hid hc0
  clear hc0
  go_enter Tryz.func243, Tryz.ntmps243
  go_wp2_with fail
  (with_reducible refine HC0.out.mono ?_)
  rintro e wx ⟨rfl, rfl⟩
  clear HC0
  go_wp2_with fail
  have P1 := Lib.hid (P0.out.drewN 1)
  have B1 := Lib.hid B0.out.drew
  have F1 := Lib.hid F0.out.drew
  clear P0 B0 F0
  have d20 : w.drew.cell? ⟨p, 20, none⟩ = some (.pointer (some ⟨m, 0, none⟩)) := P1.out.at20
  have d7 : w.drew.cell? ⟨q, 7, none⟩ = some (.int .u64 f.fu) := B1.out.at_ 7 (by omega)
  go_region_held3 (fun w' => w'.cell? ⟨p, 20, none⟩ = some (.pointer (some ⟨m, 0, none⟩)) ∧ w'.cell? ⟨q, 7, none⟩ = some (.int .u64 f.fu)) ((first | exact ⟨x20, x7⟩ | exact ⟨b20, b7⟩ | exact ⟨a20, a7⟩ | exact ⟨d20, d7⟩ | go_keep))
    (first
      | (go_at_call 236
         refine (ocell_any B1.out _ (u64_nn _) hqc).mono ?_
         rintro e W2 ⟨rfl, hb⟩
         have P2 := Lib.hid (P1.out.below hb)
         have B2 := Lib.hid (B1.out.below hb)
         have F2 := Lib.hid (F1.out.trans (Fr.old hb))
         clear hb
         have a20 : W2.cell? ⟨p, 20, none⟩ = some (.pointer (some ⟨m, 0, none⟩)) := P2.out.at20
         have a7 : W2.cell? ⟨q, 7, none⟩ = some (.int .u64 f.fu) := B2.out.at_ 7 (by omega))
      | (go_at_call 212
         refine (load_any P2.out.mem _).mono ?_
         rintro e W3 ⟨rfl, hm, hf⟩
         have P3 := Lib.hid (P2.out.acc hm hf)
         have B3 := Lib.hid (B2.out.acc P2.out hf)
         have F3 := Lib.hid (F2.out.trans (hf.mono (by simp)))
         clear hm hf
         have b20 : W3.cell? ⟨p, 20, none⟩ = some (.pointer (some ⟨m, 0, none⟩)) := P3.out.at20
         have b7 : W3.cell? ⟨q, 7, none⟩ = some (.int .u64 f.fu) := B3.out.at_ 7 (by omega))
      | (go_at_call 199
         refine (oend_any B3.out _ _).mono ?_
         rintro e W4 ⟨rfl, hb, hf⟩
         have P4 := Lib.hid (P3.out.own B3.out hf)
         have B4 := Lib.hid hb
         have F4 := Lib.hid (F3.out.trans (hf.mono (by simp)))
         clear hb hf
         have x20 : W4.cell? ⟨p, 20, none⟩ = some (.pointer (some ⟨m, 0, none⟩)) := P4.out.at20
         have x7 : W4.cell? ⟨q, 7, none⟩ = some (.int .u64 f.fu) := B4.out.at_ 7 (by omega)))
  clear d20 d7 a20 a7 b20 b7 x20 x7 P1 B1 F1 P2 B2 F2 P3 B3 F3
  go_wp2
  go_ret
  exact ⟨rfl, P4.out, B4.out, F4.out⟩
set_option maxRecDepth 100000 in
set_option maxHeartbeats 2000000 in
theorem popper_8 (hp : PE w p m k g cap s t d hd rv ev) (h : OB w q 270 [] f 0 0) (hl : f.ln = 8) (hqc : f.qc ≤ 9223372036854775807) :
    Calls Tryz.prog 243 #[.pointer (some ⟨q, 0, none⟩), .pointer (some ⟨p, 0, none⟩)] w (PStepped w p m k g cap (s.go 1 (ringI f.qr f.qc (sub1 f.fu)) id) t d hd rv ev q 270 [] f ⟨true, 1, IntKind.i64.wrap (s.old (ringI f.qr f.qc (sub1 f.fu)))⟩) := by
  have hqp : p ≠ q := (h.ne hp).1.symm
  have P0 := Lib.hid hp
  have B0 := Lib.hid h
  have F0 := Lib.hid (Fr.refl [m, g, q] w)
  clear hp h
  have hc0 := oline_any B0.out
  rw [hl] at hc0
  have HC0 := Lib.hid hc0
  clear hc0
  go_enter Tryz.func243, Tryz.ntmps243
  go_wp2_with fail
  (with_reducible refine HC0.out.mono ?_)
  rintro e wx ⟨rfl, rfl⟩
  clear HC0
  go_wp2_with fail
  have P1 := Lib.hid (P0.out.drewN 1)
  have B1 := Lib.hid B0.out.drew
  have F1 := Lib.hid F0.out.drew
  clear P0 B0 F0
  have d20 : w.drew.cell? ⟨p, 20, none⟩ = some (.pointer (some ⟨m, 0, none⟩)) := P1.out.at20
  have d7 : w.drew.cell? ⟨q, 7, none⟩ = some (.int .u64 f.fu) := B1.out.at_ 7 (by omega)
  go_region_held3 (fun w' => w'.cell? ⟨p, 20, none⟩ = some (.pointer (some ⟨m, 0, none⟩)) ∧ w'.cell? ⟨q, 7, none⟩ = some (.int .u64 f.fu)) ((first | exact ⟨x20, x7⟩ | exact ⟨b20, b7⟩ | exact ⟨a20, a7⟩ | exact ⟨d20, d7⟩ | go_keep))
    (first
      | (go_at_call 236
         refine (ocell_any B1.out _ (u64_nn _) hqc).mono ?_
         rintro e W2 ⟨rfl, hb⟩
         have P2 := Lib.hid (P1.out.below hb)
         have B2 := Lib.hid (B1.out.below hb)
         have F2 := Lib.hid (F1.out.trans (Fr.old hb))
         clear hb
         have a20 : W2.cell? ⟨p, 20, none⟩ = some (.pointer (some ⟨m, 0, none⟩)) := P2.out.at20
         have a7 : W2.cell? ⟨q, 7, none⟩ = some (.int .u64 f.fu) := B2.out.at_ 7 (by omega))
      | (go_at_call 212
         refine (load_any P2.out.mem _).mono ?_
         rintro e W3 ⟨rfl, hm, hf⟩
         have P3 := Lib.hid (P2.out.acc hm hf)
         have B3 := Lib.hid (B2.out.acc P2.out hf)
         have F3 := Lib.hid (F2.out.trans (hf.mono (by simp)))
         clear hm hf
         have b20 : W3.cell? ⟨p, 20, none⟩ = some (.pointer (some ⟨m, 0, none⟩)) := P3.out.at20
         have b7 : W3.cell? ⟨q, 7, none⟩ = some (.int .u64 f.fu) := B3.out.at_ 7 (by omega))
      | (go_at_call 199
         refine (oend_any B3.out _ _).mono ?_
         rintro e W4 ⟨rfl, hb, hf⟩
         have P4 := Lib.hid (P3.out.own B3.out hf)
         have B4 := Lib.hid hb
         have F4 := Lib.hid (F3.out.trans (hf.mono (by simp)))
         clear hb hf
         have x20 : W4.cell? ⟨p, 20, none⟩ = some (.pointer (some ⟨m, 0, none⟩)) := P4.out.at20
         have x7 : W4.cell? ⟨q, 7, none⟩ = some (.int .u64 f.fu) := B4.out.at_ 7 (by omega)))
  clear d20 d7 a20 a7 b20 b7 x20 x7 P1 B1 F1 P2 B2 F2 P3 B3 F3
  go_wp2
  go_ret
  exact ⟨rfl, P4.out, B4.out, F4.out⟩
set_option maxRecDepth 100000 in
set_option maxHeartbeats 2000000 in
theorem popper_6t (hp : PE w p m k g cap s t d hd rv ev) (h : OB w q 270 [] f 0 0) (hl : f.ln = 6) (hh : s.hit f.qt f.fv = true) :
    Calls Tryz.prog 243 #[.pointer (some ⟨q, 0, none⟩), .pointer (some ⟨p, 0, none⟩)] w (PStepped w p m k g cap (s.go 3 f.qt (fun x => if x = f.fv then add1 f.fv else x)) t d hd rv ev q 270 [] { f with ln := 7 } .none) := by
  have hqp : p ≠ q := (h.ne hp).1.symm
  have P0 := Lib.hid hp
  have B0 := Lib.hid h
  have F0 := Lib.hid (Fr.refl [m, g, q] w)
  clear hp h
  have hc0 := oline_any B0.out
  rw [hl] at hc0
  have HC0 := Lib.hid hc0
  clear hc0
  go_enter Tryz.func243, Tryz.ntmps243
  go_wp2_with fail
  (with_reducible refine HC0.out.mono ?_)
  rintro e wx ⟨rfl, rfl⟩
  clear HC0
  have HH := Lib.hid hh
  clear hh
  go_wp2_with fail
  have P1 := Lib.hid (P0.out.drewN 1)
  have B1 := Lib.hid B0.out.drew
  have F1 := Lib.hid F0.out.drew
  clear P0 B0 F0
  have d20 : w.drew.cell? ⟨p, 20, none⟩ = some (.pointer (some ⟨m, 0, none⟩)) := P1.out.at20
  have d3 : w.drew.cell? ⟨q, 3, none⟩ = some (.int .i64 f.qt) := B1.out.at_ 3 (by omega)
  have d8 : w.drew.cell? ⟨q, 8, none⟩ = some (.int .u64 f.fv) := B1.out.at_ 8 (by omega)
  go_region_held3 (fun w' => w'.cell? ⟨p, 20, none⟩ = some (.pointer (some ⟨m, 0, none⟩)) ∧ w'.cell? ⟨q, 3, none⟩ = some (.int .i64 f.qt) ∧ w'.cell? ⟨q, 8, none⟩ = some (.int .u64 f.fv)) ((first | exact ⟨a20, a3, a8⟩ | exact ⟨d20, d3, d8⟩ | go_keep))
    ((go_at_call 226
      refine (cas_any P1.out.mem _ _ _).mono ?_
      rintro e W2 ⟨rfl, hm, hf⟩
      have P2 := Lib.hid (P1.out.acc hm hf)
      have B2 := Lib.hid (B1.out.acc P1.out hf)
      have F2 := Lib.hid (F1.out.trans (hf.mono (by simp)))
      clear hm hf
      have a20 : W2.cell? ⟨p, 20, none⟩ = some (.pointer (some ⟨m, 0, none⟩)) := P2.out.at20
      have a3 : W2.cell? ⟨q, 3, none⟩ = some (.int .i64 f.qt) := B2.out.at_ 3 (by omega)
      have a8 : W2.cell? ⟨q, 8, none⟩ = some (.int .u64 f.fv) := B2.out.at_ 8 (by omega)))
  clear d20 d3 d8 a20 a3 a8 P1 B1 F1
  rw [HH.out]
  go_wp2_with fail
  (with_reducible refine (onext_any B2.out 7).mono ?_)
  rintro e W3 ⟨rfl, hb, hf⟩
  have P3 := Lib.hid (P2.out.own B2.out hf)
  have B3 := Lib.hid hb
  have F3 := Lib.hid (F2.out.trans (hf.mono (by simp)))
  clear hb hf
  clear P2 B2 F2
  go_wp2
  go_ret
  exact ⟨rfl, P3.out, B3.out, F3.out⟩
set_option maxRecDepth 100000 in
set_option maxHeartbeats 2000000 in
theorem popper_6f (hp : PE w p m k g cap s t d hd rv ev) (h : OB w q 270 [] f 0 0) (hl : f.ln = 6) (hh : s.hit f.qt f.fv = false) :
    Calls Tryz.prog 243 #[.pointer (some ⟨q, 0, none⟩), .pointer (some ⟨p, 0, none⟩)] w (PStepped w p m k g cap (s.go 3 f.qt (fun x => if x = f.fv then add1 f.fv else x)) t d hd rv ev q 270 [] { f with ln := 9 } .none) := by
  have hqp : p ≠ q := (h.ne hp).1.symm
  have P0 := Lib.hid hp
  have B0 := Lib.hid h
  have F0 := Lib.hid (Fr.refl [m, g, q] w)
  clear hp h
  have hc0 := oline_any B0.out
  rw [hl] at hc0
  have HC0 := Lib.hid hc0
  clear hc0
  go_enter Tryz.func243, Tryz.ntmps243
  go_wp2_with fail
  (with_reducible refine HC0.out.mono ?_)
  rintro e wx ⟨rfl, rfl⟩
  clear HC0
  have HH := Lib.hid hh
  clear hh
  go_wp2_with fail
  have P1 := Lib.hid (P0.out.drewN 1)
  have B1 := Lib.hid B0.out.drew
  have F1 := Lib.hid F0.out.drew
  clear P0 B0 F0
  have d20 : w.drew.cell? ⟨p, 20, none⟩ = some (.pointer (some ⟨m, 0, none⟩)) := P1.out.at20
  have d3 : w.drew.cell? ⟨q, 3, none⟩ = some (.int .i64 f.qt) := B1.out.at_ 3 (by omega)
  have d8 : w.drew.cell? ⟨q, 8, none⟩ = some (.int .u64 f.fv) := B1.out.at_ 8 (by omega)
  go_region_held3 (fun w' => w'.cell? ⟨p, 20, none⟩ = some (.pointer (some ⟨m, 0, none⟩)) ∧ w'.cell? ⟨q, 3, none⟩ = some (.int .i64 f.qt) ∧ w'.cell? ⟨q, 8, none⟩ = some (.int .u64 f.fv)) ((first | exact ⟨a20, a3, a8⟩ | exact ⟨d20, d3, d8⟩ | go_keep))
    ((go_at_call 226
      refine (cas_any P1.out.mem _ _ _).mono ?_
      rintro e W2 ⟨rfl, hm, hf⟩
      have P2 := Lib.hid (P1.out.acc hm hf)
      have B2 := Lib.hid (B1.out.acc P1.out hf)
      have F2 := Lib.hid (F1.out.trans (hf.mono (by simp)))
      clear hm hf
      have a20 : W2.cell? ⟨p, 20, none⟩ = some (.pointer (some ⟨m, 0, none⟩)) := P2.out.at20
      have a3 : W2.cell? ⟨q, 3, none⟩ = some (.int .i64 f.qt) := B2.out.at_ 3 (by omega)
      have a8 : W2.cell? ⟨q, 8, none⟩ = some (.int .u64 f.fv) := B2.out.at_ 8 (by omega)))
  clear d20 d3 d8 a20 a3 a8 P1 B1 F1
  rw [HH.out]
  go_wp2_with fail
  (with_reducible refine (onext_any B2.out 9).mono ?_)
  rintro e W3 ⟨rfl, hb, hf⟩
  have P3 := Lib.hid (P2.out.own B2.out hf)
  have B3 := Lib.hid hb
  have F3 := Lib.hid (F2.out.trans (hf.mono (by simp)))
  clear hb hf
  clear P2 B2 F2
  go_wp2
  go_ret
  exact ⟨rfl, P3.out, B3.out, F3.out⟩
set_option maxRecDepth 100000 in
set_option maxHeartbeats 2000000 in
theorem popper_7 (hp : PE w p m k g cap s t d hd rv ev) (h : OB w q 270 [] f 0 0) (hl : f.ln = 7) :
    Calls Tryz.prog 243 #[.pointer (some ⟨q, 0, none⟩), .pointer (some ⟨p, 0, none⟩)] w (PStepped w p m k g cap (s.go 2 f.qb (fun _ => f.fu)) t d hd rv ev q 270 [] { f with ln := 8 } .none) := by
  have hqp : p ≠ q := (h.ne hp).1.symm
  have P0 := Lib.hid hp
  have B0 := Lib.hid h
  have F0 := Lib.hid (Fr.refl [m, g, q] w)
  clear hp h
  have hc0 := oline_any B0.out
  rw [hl] at hc0
  have HC0 := Lib.hid hc0
  clear hc0
  go_enter Tryz.func243, Tryz.ntmps243
  go_wp2_with fail
  (with_reducible refine HC0.out.mono ?_)
  rintro e wx ⟨rfl, rfl⟩
  clear HC0
  go_wp2_with fail
  have P1 := Lib.hid (P0.out.drewN 1)
  have B1 := Lib.hid B0.out.drew
  have F1 := Lib.hid F0.out.drew
  clear P0 B0 F0
  have d20 : w.drew.cell? ⟨p, 20, none⟩ = some (.pointer (some ⟨m, 0, none⟩)) := P1.out.at20
  have d4 : w.drew.cell? ⟨q, 4, none⟩ = some (.int .i64 f.qb) := B1.out.at_ 4 (by omega)
  have d7 : w.drew.cell? ⟨q, 7, none⟩ = some (.int .u64 f.fu) := B1.out.at_ 7 (by omega)
  go_region_held3 (fun w' => w'.cell? ⟨p, 20, none⟩ = some (.pointer (some ⟨m, 0, none⟩)) ∧ w'.cell? ⟨q, 4, none⟩ = some (.int .i64 f.qb) ∧ w'.cell? ⟨q, 7, none⟩ = some (.int .u64 f.fu)) ((first | exact ⟨a20, a4, a7⟩ | exact ⟨d20, d4, d7⟩ | go_keep))
    ((go_at_call 16
      refine (store_any P1.out.mem _ _).mono ?_
      rintro e W2 ⟨rfl, hm, hf⟩
      have P2 := Lib.hid (P1.out.acc hm hf)
      have B2 := Lib.hid (B1.out.acc P1.out hf)
      have F2 := Lib.hid (F1.out.trans (hf.mono (by simp)))
      clear hm hf
      have a20 : W2.cell? ⟨p, 20, none⟩ = some (.pointer (some ⟨m, 0, none⟩)) := P2.out.at20
      have a4 : W2.cell? ⟨q, 4, none⟩ = some (.int .i64 f.qb) := B2.out.at_ 4 (by omega)
      have a7 : W2.cell? ⟨q, 7, none⟩ = some (.int .u64 f.fu) := B2.out.at_ 7 (by omega)))
  clear d20 d4 d7 a20 a4 a7 P1 B1 F1
  go_wp2_with fail
  (with_reducible refine (onext_any B2.out 8).mono ?_)
  rintro e W3 ⟨rfl, hb, hf⟩
  have P3 := Lib.hid (P2.out.own B2.out hf)
  have B3 := Lib.hid hb
  have F3 := Lib.hid (F2.out.trans (hf.mono (by simp)))
  clear hb hf
  clear P2 B2 F2
  go_wp2
  go_ret
  exact ⟨rfl, P3.out, B3.out, F3.out⟩
set_option maxRecDepth 100000 in
set_option maxHeartbeats 2000000 in
theorem popper_9 (hp : PE w p m k g cap s t d hd rv ev) (h : OB w q 270 [] f 0 0) (hl : f.ln = 9) :
    Calls Tryz.prog 243 #[.pointer (some ⟨q, 0, none⟩), .pointer (some ⟨p, 0, none⟩)] w (PStepped w p m k g cap (s.go 2 f.qb (fun _ => f.fu)) t d hd rv ev q 270 [] f ⟨true, 2, 0⟩) := by
  have hqp : p ≠ q := (h.ne hp).1.symm
  have P0 := Lib.hid hp
  have B0 := Lib.hid h
  have F0 := Lib.hid (Fr.refl [m, g, q] w)
  clear hp h
  have hc0 := oline_any B0.out
  rw [hl] at hc0
  have HC0 := Lib.hid hc0
  clear hc0
  go_enter Tryz.func243, Tryz.ntmps243
  go_wp2_with fail
  (with_reducible refine HC0.out.mono ?_)
  rintro e wx ⟨rfl, rfl⟩
  clear HC0
  go_wp2_with fail
  have P1 := Lib.hid (P0.out.drewN 1)
  have B1 := Lib.hid B0.out.drew
  have F1 := Lib.hid F0.out.drew
  clear P0 B0 F0
  have d20 : w.drew.cell? ⟨p, 20, none⟩ = some (.pointer (some ⟨m, 0, none⟩)) := P1.out.at20
  have d4 : w.drew.cell? ⟨q, 4, none⟩ = some (.int .i64 f.qb) := B1.out.at_ 4 (by omega)
  have d7 : w.drew.cell? ⟨q, 7, none⟩ = some (.int .u64 f.fu) := B1.out.at_ 7 (by omega)
  go_region_held3 (fun w' => w'.cell? ⟨p, 20, none⟩ = some (.pointer (some ⟨m, 0, none⟩)) ∧ w'.cell? ⟨q, 4, none⟩ = some (.int .i64 f.qb) ∧ w'.cell? ⟨q, 7, none⟩ = some (.int .u64 f.fu)) ((first | exact ⟨a20, a4, a7⟩ | exact ⟨d20, d4, d7⟩ | go_keep))
    ((go_at_call 16
      refine (store_any P1.out.mem _ _).mono ?_
      rintro e W2 ⟨rfl, hm, hf⟩
      have P2 := Lib.hid (P1.out.acc hm hf)
      have B2 := Lib.hid (B1.out.acc P1.out hf)
      have F2 := Lib.hid (F1.out.trans (hf.mono (by simp)))
      clear hm hf
      have a20 : W2.cell? ⟨p, 20, none⟩ = some (.pointer (some ⟨m, 0, none⟩)) := P2.out.at20
      have a4 : W2.cell? ⟨q, 4, none⟩ = some (.int .i64 f.qb) := B2.out.at_ 4 (by omega)
      have a7 : W2.cell? ⟨q, 7, none⟩ = some (.int .u64 f.fu) := B2.out.at_ 7 (by omega)))
  clear d20 d4 d7 a20 a4 a7 P1 B1 F1
  go_wp2_with fail
  (with_reducible refine (oend_any B2.out 2 0).mono ?_)
  rintro e W3 ⟨rfl, hb, hf⟩
  have P3 := Lib.hid (P2.out.own B2.out hf)
  have B3 := Lib.hid hb
  have F3 := Lib.hid (F2.out.trans (hf.mono (by simp)))
  clear hb hf
  clear P2 B2 F2
  go_wp2
  go_ret
  exact ⟨rfl, P3.out, B3.out, F3.out⟩
set_option maxRecDepth 100000 in
/-- A popper that is done. -/
theorem popper_over {ty : TypeId} {post : List Value} {cd vl : Int} (h : OB w q ty post { f with ln := 0 } cd vl) (v : Value) :
    Calls Tryz.prog 243 #[.pointer (some ⟨q, 0, none⟩), v] w fun e w' => e = .returned (.bool true) ∧ w = w' := by
  have HC := Lib.hid (oline_any h)
  clear h
  go_enter Tryz.func243, Tryz.ntmps243
  go_wp2_with fail
  (with_reducible refine HC.out.mono ?_)
  rintro e wx ⟨rfl, rfl⟩
  go_wp2
  go_ret
  exact ⟨rfl, rfl⟩
theorem popper_any (hp : PE w p m k g cap s t d hd rv ev) (h : OB w q 270 [] f 0 0) (hl : f.ln = 1 ∨ f.ln = 2 ∨ f.ln = 3 ∨ f.ln = 4 ∨ f.ln = 5 ∨ f.ln = 6 ∨ f.ln = 7 ∨ f.ln = 8 ∨ f.ln = 9) (hqc : f.qc ≤ 9223372036854775807) :
    Calls Tryz.prog 243 #[.pointer (some ⟨q, 0, none⟩), .pointer (some ⟨p, 0, none⟩)] w (PStepped w p m k g cap (popS s f).1 t d hd rv ev q 270 [] (popS s f).2.1 (popS s f).2.2) := by
  rcases hl with hl | hl | hl | hl | hl | hl | hl | hl | hl
  · rw [popS, if_pos hl]
    exact popper_1 hp h hl
  · rw [popS, if_neg (show ¬ f.ln = 1 by omega), if_pos hl]
    by_cases hc : sizeI f.fu (s.old f.qt) ≤ 0
    · rw [if_pos hc]
      exact popper_2e hp h hl hc
    · rw [if_neg hc]
      exact popper_2 hp h hl hc
  · rw [popS, if_neg (show ¬ f.ln = 1 by omega), if_neg (show ¬ f.ln = 2 by omega), if_pos hl]
    exact popper_3 hp h hl
  · rw [popS, if_neg (show ¬ f.ln = 1 by omega), if_neg (show ¬ f.ln = 2 by omega), if_neg (show ¬ f.ln = 3 by omega), if_pos hl]
    exact popper_4 hp h hl
  · rw [popS, if_neg (show ¬ f.ln = 1 by omega), if_neg (show ¬ f.ln = 2 by omega), if_neg (show ¬ f.ln = 3 by omega), if_neg (show ¬ f.ln = 4 by omega), if_pos (show f.ln = 5 ∨ f.ln = 8 by omega)]
    exact popper_5 hp h hl hqc
  · rw [popS, if_neg (show ¬ f.ln = 1 by omega), if_neg (show ¬ f.ln = 2 by omega), if_neg (show ¬ f.ln = 3 by omega), if_neg (show ¬ f.ln = 4 by omega), if_neg (show ¬ (f.ln = 5 ∨ f.ln = 8) by omega), if_pos hl]
    cases hh : s.hit f.qt f.fv with
    | true => exact popper_6t hp h hl hh
    | false => exact popper_6f hp h hl hh
  · rw [popS, if_neg (show ¬ f.ln = 1 by omega), if_neg (show ¬ f.ln = 2 by omega), if_neg (show ¬ f.ln = 3 by omega), if_neg (show ¬ f.ln = 4 by omega), if_neg (show ¬ (f.ln = 5 ∨ f.ln = 8) by omega), if_neg (show ¬ f.ln = 6 by omega), if_pos hl]
    exact popper_7 hp h hl
  · rw [popS, if_neg (show ¬ f.ln = 1 by omega), if_neg (show ¬ f.ln = 2 by omega), if_neg (show ¬ f.ln = 3 by omega), if_neg (show ¬ f.ln = 4 by omega), if_pos (show f.ln = 5 ∨ f.ln = 8 by omega)]
    exact popper_8 hp h hl hqc
  · rw [popS, if_neg (show ¬ f.ln = 1 by omega), if_neg (show ¬ f.ln = 2 by omega), if_neg (show ¬ f.ln = 3 by omega), if_neg (show ¬ f.ln = 4 by omega), if_neg (show ¬ (f.ln = 5 ∨ f.ln = 8) by omega), if_neg (show ¬ f.ln = 6 by omega), if_neg (show ¬ f.ln = 7 by omega)]
    exact popper_9 hp h hl
end
end Go.Proofs.YtheimjcgpbmecaaGreat
