/-
  Package owner: the lines of Push. (Written by wip/gen_own.py.)
-/
import Derived.Test.YtgipddeldddbnaaGreatMgAT
import Derived.Test.YtgipddeldddbnaaGreatMgAO
namespace Go.Proofs.YtgipddeldddbnaaGreat
open Go Go.RowKit Go.Shelf
set_option linter.unusedSimpArgs false
set_option linter.unusedVariables false

/-- What a step of a machine of the owner gives. -/
def PStepped (w : World) (p m k g cap : Nat) (s' : St) (t d : Int) (hd : List Value) (rv ev : Value) (q : Nat) (ty : TypeId) (post : List Value) (f' : Fra) (r : Res) (e : Ending) (w' : World) : Prop :=
  e = .returned (.bool r.dn) ∧ PE w' p m k g cap s' t d hd rv ev ∧ OB w' q ty post (if r.dn then { f' with ln := 0 } else f') r.cd r.vl ∧ Fr [m, g, q] w w'

section
variable {w : World} {p m k g cap : Nat} {s : St} {t d : Int} {hd : List Value} {rv ev : Value} {q : Nat} {f : Fra}

set_option maxRecDepth 100000 in
set_option maxHeartbeats 2000000 in
theorem pusher_1 (hp : PE w p m k g cap s t d hd rv ev) (h : OB w q 168 [.int .i64 f.fa] f 0 0) (hl : f.ln = 1) :
    Calls Tryz.prog 111 #[.pointer (some ⟨q, 0, none⟩), .pointer (some ⟨p, 0, none⟩)] w (PStepped w p m k g cap (s.go 1 f.qb id) t d hd rv ev q 168 [.int .i64 f.fa] { f with fu := s.old f.qb, ln := 2 } .none) := by
  have hqp : p ≠ q := (h.ne hp).1.symm
  have P0 := Lib.hid hp
  have B0 := Lib.hid h
  have F0 := Lib.hid (Fr.refl [m, g, q] w)
  clear hp h
  have hc0 := oline_any B0.out
  rw [hl] at hc0
  have HC0 := Lib.hid hc0
  clear hc0
  go_enter Tryz.func111, Tryz.ntmps111
  go_wp2_with fail
  (with_reducible refine HC0.out.mono ?_)
  rintro e wx ⟨rfl, rfl⟩
  clear HC0
  go_wp2_with fail
  (with_reducible refine (oloadBottom_any P0.out B0.out).mono ?_)
  rintro e W1 ⟨rfl, hp, hb, hf⟩
  have P1 := Lib.hid hp
  have B1 := Lib.hid hb
  have F1 := Lib.hid (F0.out.trans hf)
  clear hp hb hf
  clear P0 B0 F0
  go_wp2_with fail
  (with_reducible refine (onext_any B1.out 2).mono ?_)
  rintro e W2 ⟨rfl, hb, hf⟩
  have P2 := Lib.hid (P1.out.own B1.out hf)
  have B2 := Lib.hid hb
  have F2 := Lib.hid (F1.out.trans (hf.mono (by simp)))
  clear hb hf
  clear P1 B1 F1
  go_wp2
  go_ret
  exact ⟨rfl, P2.out, B2.out, F2.out⟩
set_option maxRecDepth 100000 in
set_option maxHeartbeats 2000000 in
theorem pusher_2f (hp : PE w p m k g cap s t d hd rv ev) (h : OB w q 168 [.int .i64 f.fa] f 0 0) (hl : f.ln = 2) (hc : f.qc ≤ sizeI f.fu (s.old f.qt)) :
    Calls Tryz.prog 111 #[.pointer (some ⟨q, 0, none⟩), .pointer (some ⟨p, 0, none⟩)] w (PStepped w p m k g cap (s.go 1 f.qt id) t d hd rv ev q 168 [.int .i64 f.fa] { f with fv := s.old f.qt } ⟨true, 3, 0⟩) := by
  have hqp : p ≠ q := (h.ne hp).1.symm
  have P0 := Lib.hid hp
  have B0 := Lib.hid h
  have F0 := Lib.hid (Fr.refl [m, g, q] w)
  clear hp h
  have hc0 := oline_any B0.out
  rw [hl] at hc0
  have HC0 := Lib.hid hc0
  clear hc0
  go_enter Tryz.func111, Tryz.ntmps111
  go_wp2_with fail
  (with_reducible refine HC0.out.mono ?_)
  rintro e wx ⟨rfl, rfl⟩
  clear HC0
  have hcb : decide (f.qc ≤ sizeI f.fu (s.old f.qt)) = true := by simpa using hc
  go_wp2_with fail
  (with_reducible refine (oloadTop_any P0.out B0.out).mono ?_)
  rintro e W1 ⟨rfl, hp, hb, hf⟩
  have P1 := Lib.hid hp
  have B1 := Lib.hid hb
  have F1 := Lib.hid (F0.out.trans hf)
  clear hp hb hf
  clear P0 B0 F0
  go_wp2_with fail
  have c7 : W1.cell? ⟨q, 7, none⟩ = some (.int .u64 f.fu) := B1.out.at_ 7 (by omega)
  have c6 : W1.cell? ⟨q, 6, none⟩ = some (.int .i64 f.qc) := B1.out.at_ 6 (by omega)
  have hq := fun (n : Nat) => (osize_any (B1.out.drewN n) (f.fu)).mono (fun e w' (h : e = .returned (.int .i64 (sizeI (f.fu) (s.old f.qt))) ∧ _ = w') => (⟨h.1, h.2.symm⟩ : e = .returned (.int .i64 (sizeI (f.fu) (s.old f.qt))) ∧ w' = _))
  go_quiet ((go_at_call 114; exact Calls.quiet_of_same (hq _)))
  have P2 := Lib.hid (P1.out.drewN nq)
  have B2 := Lib.hid (B1.out.drewN nq)
  have F2 := Lib.hid (F1.out.drewN nq)
  clear c7 c6
  clear hq
  generalize W1.drewN nq = W2 at *
  clear P1 B1 F1
  go_wp2_with fail
  (with_reducible refine (oend_any B2.out 3 0).mono ?_)
  rintro e W3 ⟨rfl, hb, hf⟩
  have P3 := Lib.hid (P2.out.own B2.out hf)
  have B3 := Lib.hid hb
  have F3 := Lib.hid (F2.out.trans (hf.mono (by simp)))
  clear hb hf
  clear P2 B2 F2
  go_wp2
  go_ret
  exact ⟨rfl, P3.out, B3.out, F3.out⟩
set_option maxRecDepth 100000 in
set_option maxHeartbeats 2000000 in
theorem pusher_2 (hp : PE w p m k g cap s t d hd rv ev) (h : OB w q 168 [.int .i64 f.fa] f 0 0) (hl : f.ln = 2) (hc : ¬ f.qc ≤ sizeI f.fu (s.old f.qt)) :
    Calls Tryz.prog 111 #[.pointer (some ⟨q, 0, none⟩), .pointer (some ⟨p, 0, none⟩)] w (PStepped w p m k g cap (s.go 1 f.qt id) t d hd rv ev q 168 [.int .i64 f.fa] { f with fv := s.old f.qt, ln := 3 } .none) := by
  have hqp : p ≠ q := (h.ne hp).1.symm
  have P0 := Lib.hid hp
  have B0 := Lib.hid h
  have F0 := Lib.hid (Fr.refl [m, g, q] w)
  clear hp h
  have hc0 := oline_any B0.out
  rw [hl] at hc0
  have HC0 := Lib.hid hc0
  clear hc0
  go_enter Tryz.func111, Tryz.ntmps111
  go_wp2_with fail
  (with_reducible refine HC0.out.mono ?_)
  rintro e wx ⟨rfl, rfl⟩
  clear HC0
  have hcb : decide (f.qc ≤ sizeI f.fu (s.old f.qt)) = false := by simpa using hc
  go_wp2_with fail
  (with_reducible refine (oloadTop_any P0.out B0.out).mono ?_)
  rintro e W1 ⟨rfl, hp, hb, hf⟩
  have P1 := Lib.hid hp
  have B1 := Lib.hid hb
  have F1 := Lib.hid (F0.out.trans hf)
  clear hp hb hf
  clear P0 B0 F0
  go_wp2_with fail
  have c7 : W1.cell? ⟨q, 7, none⟩ = some (.int .u64 f.fu) := B1.out.at_ 7 (by omega)
  have c6 : W1.cell? ⟨q, 6, none⟩ = some (.int .i64 f.qc) := B1.out.at_ 6 (by omega)
  have hq := fun (n : Nat) => (osize_any (B1.out.drewN n) (f.fu)).mono (fun e w' (h : e = .returned (.int .i64 (sizeI (f.fu) (s.old f.qt))) ∧ _ = w') => (⟨h.1, h.2.symm⟩ : e = .returned (.int .i64 (sizeI (f.fu) (s.old f.qt))) ∧ w' = _))
  go_quiet ((go_at_call 114; exact Calls.quiet_of_same (hq _)))
  have P2 := Lib.hid (P1.out.drewN nq)
  have B2 := Lib.hid (B1.out.drewN nq)
  have F2 := Lib.hid (F1.out.drewN nq)
  clear c7 c6
  clear hq
  generalize W1.drewN nq = W2 at *
  clear P1 B1 F1
  go_wp2_with fail
  (with_reducible refine (onext_any B2.out 3).mono ?_)
  rintro e W3 ⟨rfl, hb, hf⟩
  have P3 := Lib.hid (P2.out.own B2.out hf)
  have B3 := Lib.hid hb
  have F3 := Lib.hid (F2.out.trans (hf.mono (by simp)))
  clear hb hf
  clear P2 B2 F2
  go_wp2
  go_ret
  exact ⟨rfl, P3.out, B3.out, F3.out⟩
set_option maxRecDepth 100000 in
set_option maxHeartbeats 2000000 in
theorem pusher_3 (hp : PE w p m k g cap s t d hd rv ev) (h : OB w q 168 [.int .i64 f.fa] f 0 0) (hl : f.ln = 3) (hu : 0 ≤ f.fu) (hqc : f.qc ≤ 9223372036854775807) :
    Calls Tryz.prog 111 #[.pointer (some ⟨q, 0, none⟩), .pointer (some ⟨p, 0, none⟩)] w (PStepped w p m k g cap (s.go 2 (ringI f.qr f.qc f.fu) (fun _ => IntKind.u64.wrap f.fa)) t d hd rv ev q 168 [.int .i64 f.fa] { f with ln := 4 } .none) := by
  have hqp : p ≠ q := (h.ne hp).1.symm
  have P0 := Lib.hid hp
  have B0 := Lib.hid h
  have F0 := Lib.hid (Fr.refl [m, g, q] w)
  clear hp h
  have hc0 := oline_any B0.out
  rw [hl] at hc0
  have HC0 := Lib.hid hc0
  clear hc0
  go_enter Tryz.func111, Tryz.ntmps111
  go_wp2_with fail
  (with_reducible refine HC0.out.mono ?_)
  rintro e wx ⟨rfl, rfl⟩
  clear HC0
  go_wp2_with fail
  have P1 := Lib.hid (P0.out.drewN 1)
  have B1 := Lib.hid B0.out.drew
  have F1 := Lib.hid F0.out.drew
  clear P0 B0 F0
  have d20 : w.drew.cell? ⟨p, 20, none⟩ = some (.pointer (some ⟨m, 0, none⟩)) := P1.out.at20
  have d7 : w.drew.cell? ⟨q, 7, none⟩ = some (.int .u64 f.fu) := B1.out.at_ 7 (by omega)
  have d9 : w.drew.cell? ⟨q, 9, none⟩ = some (.int .i64 f.fa) := B1.out.blk.at_ 9
  go_region_held3 (fun w' => w'.cell? ⟨p, 20, none⟩ = some (.pointer (some ⟨m, 0, none⟩)) ∧ w'.cell? ⟨q, 7, none⟩ = some (.int .u64 f.fu) ∧ w'.cell? ⟨q, 9, none⟩ = some (.int .i64 f.fa)) ((first | exact ⟨b20, b7, b9⟩ | exact ⟨a20, a7, a9⟩ | exact ⟨d20, d7, d9⟩ | go_keep))
    (first
      | (go_at_call 115
         refine (ocell_any B1.out _ hu hqc).mono ?_
         rintro e W2 ⟨rfl, hb⟩
         have P2 := Lib.hid (P1.out.below hb)
         have B2 := Lib.hid (B1.out.below hb)
         have F2 := Lib.hid (F1.out.trans (Fr.old hb))
         clear hb
         have a20 : W2.cell? ⟨p, 20, none⟩ = some (.pointer (some ⟨m, 0, none⟩)) := P2.out.at20
         have a7 : W2.cell? ⟨q, 7, none⟩ = some (.int .u64 f.fu) := B2.out.at_ 7 (by omega)
         have a9 : W2.cell? ⟨q, 9, none⟩ = some (.int .i64 f.fa) := B2.out.blk.at_ 9)
      | (go_at_call 72
         refine (store_any P2.out.mem _ _).mono ?_
         rintro e W3 ⟨rfl, hm, hf⟩
         have P3 := Lib.hid (P2.out.acc hm hf)
         have B3 := Lib.hid (B2.out.acc P2.out hf)
         have F3 := Lib.hid (F2.out.trans (hf.mono (by simp)))
         clear hm hf
         have b20 : W3.cell? ⟨p, 20, none⟩ = some (.pointer (some ⟨m, 0, none⟩)) := P3.out.at20
         have b7 : W3.cell? ⟨q, 7, none⟩ = some (.int .u64 f.fu) := B3.out.at_ 7 (by omega)
         have b9 : W3.cell? ⟨q, 9, none⟩ = some (.int .i64 f.fa) := B3.out.blk.at_ 9))
  clear d20 d7 d9 a20 a7 a9 b20 b7 b9 P1 B1 F1 P2 B2 F2
  go_wp2_with fail
  (with_reducible refine (onext_any B3.out 4).mono ?_)
  rintro e W4 ⟨rfl, hb, hf⟩
  have P4 := Lib.hid (P3.out.own B3.out hf)
  have B4 := Lib.hid hb
  have F4 := Lib.hid (F3.out.trans (hf.mono (by simp)))
  clear hb hf
  clear P3 B3 F3
  go_wp2
  go_ret
  exact ⟨rfl, P4.out, B4.out, F4.out⟩
set_option maxRecDepth 100000 in
set_option maxHeartbeats 2000000 in
theorem pusher_4 (hp : PE w p m k g cap s t d hd rv ev) (h : OB w q 168 [.int .i64 f.fa] f 0 0) (hl : f.ln = 4) :
    Calls Tryz.prog 111 #[.pointer (some ⟨q, 0, none⟩), .pointer (some ⟨p, 0, none⟩)] w (PStepped w p m k g cap (s.go 2 f.qb (fun _ => IntKind.u64.wrap (f.fu + 1))) t d hd rv ev q 168 [.int .i64 f.fa] f ⟨true, 0, 0⟩) := by
  have hqp : p ≠ q := (h.ne hp).1.symm
  have P0 := Lib.hid hp
  have B0 := Lib.hid h
  have F0 := Lib.hid (Fr.refl [m, g, q] w)
  clear hp h
  have hc0 := oline_any B0.out
  rw [hl] at hc0
  have HC0 := Lib.hid hc0
  clear hc0
  go_enter Tryz.func111, Tryz.ntmps111
  go_wp2_with fail
  (with_reducible refine HC0.out.mono ?_)
  rintro e wx ⟨rfl, rfl⟩
  clear HC0
  go_wp2_with fail
  have P1 := Lib.hid (P0.out.drewN 1)
  have B1 := Lib.hid B0.out.drew
  have F1 := Lib.hid F0.out.drew
  clear P0 B0 F0
  have d20 : w.drew.cell? ⟨p, 20, none⟩ = some (.pointer (some ⟨m, 0, none⟩)) := P1.out.at20
  have d4 : w.drew.cell? ⟨q, 4, none⟩ = some (.int .i64 f.qb) := B1.out.at_ 4 (by omega)
  have d7 : w.drew.cell? ⟨q, 7, none⟩ = some (.int .u64 f.fu) := B1.out.at_ 7 (by omega)
  go_region_held3 (fun w' => w'.cell? ⟨p, 20, none⟩ = some (.pointer (some ⟨m, 0, none⟩)) ∧ w'.cell? ⟨q, 4, none⟩ = some (.int .i64 f.qb) ∧ w'.cell? ⟨q, 7, none⟩ = some (.int .u64 f.fu)) ((first | exact ⟨a20, a4, a7⟩ | exact ⟨d20, d4, d7⟩ | go_keep))
    ((go_at_call 72
      refine (store_any P1.out.mem _ _).mono ?_
      rintro e W2 ⟨rfl, hm, hf⟩
      have P2 := Lib.hid (P1.out.acc hm hf)
      have B2 := Lib.hid (B1.out.acc P1.out hf)
      have F2 := Lib.hid (F1.out.trans (hf.mono (by simp)))
      clear hm hf
      have a20 : W2.cell? ⟨p, 20, none⟩ = some (.pointer (some ⟨m, 0, none⟩)) := P2.out.at20
      have a4 : W2.cell? ⟨q, 4, none⟩ = some (.int .i64 f.qb) := B2.out.at_ 4 (by omega)
      have a7 : W2.cell? ⟨q, 7, none⟩ = some (.int .u64 f.fu) := B2.out.at_ 7 (by omega)))
  clear d20 d4 d7 a20 a4 a7 P1 B1 F1
  go_wp2_with fail
  (with_reducible refine (oend_any B2.out 0 0).mono ?_)
  rintro e W3 ⟨rfl, hb, hf⟩
  have P3 := Lib.hid (P2.out.own B2.out hf)
  have B3 := Lib.hid hb
  have F3 := Lib.hid (F2.out.trans (hf.mono (by simp)))
  clear hb hf
  clear P2 B2 F2
  go_wp2
  go_ret
  exact ⟨rfl, P3.out, B3.out, F3.out⟩
/-- A pusher that is done. -/
theorem pusher_over {ty : TypeId} {post : List Value} {cd vl : Int} (h : OB w q ty post { f with ln := 0 } cd vl) (v : Value) :
    Calls Tryz.prog 111 #[.pointer (some ⟨q, 0, none⟩), v] w fun e w' => e = .returned (.bool true) ∧ w = w' := by
  have HC := Lib.hid (oline_any h)
  clear h
  go_enter Tryz.func111, Tryz.ntmps111
  go_wp2_with fail
  (with_reducible refine HC.out.mono ?_)
  rintro e wx ⟨rfl, rfl⟩
  go_wp2
  go_ret
  exact ⟨rfl, rfl⟩
theorem pusher_any (hp : PE w p m k g cap s t d hd rv ev) (h : OB w q 168 [.int .i64 f.fa] f 0 0) (hl : f.ln = 1 ∨ f.ln = 2 ∨ f.ln = 3 ∨ f.ln = 4) (hu : 0 ≤ f.fu) (hqc : f.qc ≤ 9223372036854775807) :
    Calls Tryz.prog 111 #[.pointer (some ⟨q, 0, none⟩), .pointer (some ⟨p, 0, none⟩)] w (PStepped w p m k g cap (pushS s f).1 t d hd rv ev q 168 [.int .i64 f.fa] (pushS s f).2.1 (pushS s f).2.2) := by
  unfold pushS
  rcases hl with hl | hl | hl | hl
  · simpa only [hl, if_true] using pusher_1 hp h hl
  · simp only [hl, show ¬ (2 : Int) = 1 by decide, if_false, if_true]
    by_cases hc : f.qc ≤ sizeI f.fu (s.old f.qt)
    · simp only [if_pos hc]
      exact pusher_2f hp h hl hc
    · simp only [if_neg hc]
      exact pusher_2 hp h hl hc
  · simp only [hl, show ¬ (3 : Int) = 1 by decide, show ¬ (3 : Int) = 2 by decide, if_false, if_true]
    exact pusher_3 hp h hl hu hqc
  · simp only [hl, show ¬ (4 : Int) = 1 by decide, show ¬ (4 : Int) = 2 by decide, show ¬ (4 : Int) = 3 by decide, if_false]
    exact pusher_4 hp h hl
end
end Go.Proofs.YtgipddeldddbnaaGreat
