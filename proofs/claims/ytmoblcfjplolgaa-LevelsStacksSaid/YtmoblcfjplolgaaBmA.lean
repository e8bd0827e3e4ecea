/-
  Package bitmap: its flags, the lines of Set and Clear. (Written by wip/gen_bm.py.)
-/
import Derived.Test.YtmoblcfjplolgaaMgAK
import Derived.Test.YtmoblcfjplolgaaMgAI
import Derived.Test.YtmoblcfjplolgaaMgAN
import Derived.Test.YtmoblcfjplolgaaMgAO
namespace Go.Proofs.Ytmoblcfjplolgaa
open Go Go.RowKit Go.Shelf
set_option linter.unusedSimpArgs false
set_option linter.unusedVariables false

section
variable {w : World} {p m k g cap : Nat} {s : St} {t d : Int} {hd : List Value} {rv ev : Value} {q : Nat} {f : Fra}

set_option maxRecDepth 100000 in
set_option maxHeartbeats 2000000 in
theorem raise_any (hp : PE w p m k g cap s t d hd rv ev) {o : Nat} {ty : TypeId} {cs : Array Value} {c x : Int} (hb : Blk w q ty cs) (n2 : q ≠ m) (n4 : q ≠ g) (h0 : cs[o]? = some (.int .i64 c)) (h1 : cs[o + 1]? = some (.int .u64 x)) :
    Calls Try.prog 108 #[.pointer (some ⟨q, o, none⟩), .pointer (some ⟨p, 0, none⟩)] w fun e w' => e = .returned (.tuple #[]) ∧ Mem w' m g cap (s.go 4 c fun y => bits .or .u64 y x) ∧ Fr [m, g] w w' := by
  have P0 := Lib.hid (hp.drewN 1)
  have B0 := Lib.hid (show Blk w.drew q ty cs from hb)
  have HN := Lib.hid (And.intro n2 n4)
  have H0 := Lib.hid (And.intro h0 h1)
  have d20 : w.drew.cell? ⟨p, 20, none⟩ = some (.pointer (some ⟨m, 0, none⟩)) := P0.out.at20
  have d0 : w.drew.cell? ⟨q, o, none⟩ = some (.int .i64 c) := by rw [B0.out.at_]; exact h0
  have d1 : w.drew.cell? ⟨q, o + 1, none⟩ = some (.int .u64 x) := by rw [B0.out.at_]; exact h1
  clear hp hb n2 n4 h0 h1
  go_enter Try.func108, Try.ntmps108
  go_wp2_with fail
  go_region_held3 (fun w' => w'.cell? ⟨p, 20, none⟩ = some (.pointer (some ⟨m, 0, none⟩)) ∧ w'.cell? ⟨q, o, none⟩ = some (.int .i64 c) ∧ w'.cell? ⟨q, o + 1, none⟩ = some (.int .u64 x)) ((first | exact ⟨a20, a0, a1⟩ | exact ⟨d20, d0, d1⟩ | go_keep))
    ((go_at_call 109
      refine (or_any P0.out.mem _ _).mono ?_
      rintro e w1 ⟨rfl, hm, hf⟩
      have HM := Lib.hid hm
      have HF := Lib.hid hf
      have B1 := Lib.hid (show Blk w1 q ty cs from B0.out.of_same (hf.block q B0.out.lt (by simp [HN.out.1, HN.out.2])))
      have a20 : w1.cell? ⟨p, 20, none⟩ = some (.pointer (some ⟨m, 0, none⟩)) := (P0.out.acc hm hf).at20
      have a0 : w1.cell? ⟨q, o, none⟩ = some (.int .i64 c) := by rw [B1.out.at_]; exact H0.out.1
      have a1 : w1.cell? ⟨q, o + 1, none⟩ = some (.int .u64 x) := by rw [B1.out.at_]; exact H0.out.2
      clear hm hf))
  go_end0
  exact ⟨rfl, HM.out, (Fr.refl _ _).drew.trans HF.out⟩

set_option maxRecDepth 100000 in
set_option maxHeartbeats 2000000 in
theorem lower_any (hp : PE w p m k g cap s t d hd rv ev) {o : Nat} {ty : TypeId} {cs : Array Value} {c x : Int} (hb : Blk w q ty cs) (n2 : q ≠ m) (n4 : q ≠ g) (h0 : cs[o]? = some (.int .i64 c)) (h1 : cs[o + 1]? = some (.int .u64 x)) :
    Calls Try.prog 118 #[.pointer (some ⟨q, o, none⟩), .pointer (some ⟨p, 0, none⟩)] w fun e w' => e = .returned (.tuple #[]) ∧ Mem w' m g cap (s.go 5 c fun y => bits .and .u64 y (notU x)) ∧ Fr [m, g] w w' := by
  have P0 := Lib.hid (hp.drewN 1)
  have B0 := Lib.hid (show Blk w.drew q ty cs from hb)
  have HN := Lib.hid (And.intro n2 n4)
  have H0 := Lib.hid (And.intro h0 h1)
  have d20 : w.drew.cell? ⟨p, 20, none⟩ = some (.pointer (some ⟨m, 0, none⟩)) := P0.out.at20
  have d0 : w.drew.cell? ⟨q, o, none⟩ = some (.int .i64 c) := by rw [B0.out.at_]; exact h0
  have d1 : w.drew.cell? ⟨q, o + 1, none⟩ = some (.int .u64 x) := by rw [B0.out.at_]; exact h1
  clear hp hb n2 n4 h0 h1
  go_enter Try.func118, Try.ntmps118
  go_wp2_with fail
  go_region_held3 (fun w' => w'.cell? ⟨p, 20, none⟩ = some (.pointer (some ⟨m, 0, none⟩)) ∧ w'.cell? ⟨q, o, none⟩ = some (.int .i64 c) ∧ w'.cell? ⟨q, o + 1, none⟩ = some (.int .u64 x)) ((first | exact ⟨a20, a0, a1⟩ | exact ⟨d20, d0, d1⟩ | go_keep))
    ((go_at_call 119
      refine (and_any P0.out.mem _ _).mono ?_
      rintro e w1 ⟨rfl, hm, hf⟩
      have HM := Lib.hid hm
      have HF := Lib.hid hf
      have B1 := Lib.hid (show Blk w1 q ty cs from B0.out.of_same (hf.block q B0.out.lt (by simp [HN.out.1, HN.out.2])))
      have a20 : w1.cell? ⟨p, 20, none⟩ = some (.pointer (some ⟨m, 0, none⟩)) := (P0.out.acc hm hf).at20
      have a0 : w1.cell? ⟨q, o, none⟩ = some (.int .i64 c) := by rw [B1.out.at_]; exact H0.out.1
      have a1 : w1.cell? ⟨q, o + 1, none⟩ = some (.int .u64 x) := by rw [B1.out.at_]; exact H0.out.2
      clear hm hf))
  go_end0
  exact ⟨rfl, HM.out, (Fr.refl _ _).drew.trans HF.out⟩

set_option maxRecDepth 100000 in
set_option maxHeartbeats 2000000 in
theorem clearer_1 (hp : PE w p m k g cap s t d hd rv ev) (h : OB w q 176 [.int .i64 f.fa, .int .u64 (maskS f.fb)] f 0 0) (hl : f.ln = 1) :
    Calls Try.prog 117 #[.pointer (some ⟨q, 0, none⟩), .pointer (some ⟨p, 0, none⟩)] w (PStepped w p m k g cap (s.go 5 f.fa (fun x => bits .and .u64 x (notU (maskS f.fb)))) t d hd rv ev q 176 [.int .i64 f.fa, .int .u64 (maskS f.fb)] { f with ln := 2 } .none) := by
  have hqp : p ≠ q := (h.ne hp).1.symm
  have P0 := Lib.hid hp
  have B0 := Lib.hid h
  have F0 := Lib.hid (Fr.refl [m, g, q] w)
  clear hp h
  have hc0 := oline_any B0.out
  rw [hl] at hc0
  have HC0 := Lib.hid hc0
  clear hc0
  go_enter Try.func117, Try.ntmps117
  go_wp2_with fail
  (with_reducible refine HC0.out.mono ?_)
  rintro e wx ⟨rfl, rfl⟩
  clear HC0
  go_wp2_with fail
  (with_reducible refine (lower_any P0.out  B0.out.blk (B0.out.ne P0.out).2.1 (B0.out.ne P0.out).2.2.2 (o := 9) rfl rfl).mono ?_)
  rintro e W1 ⟨rfl, hm, hf⟩
  have P1 := Lib.hid (P0.out.acc hm hf)
  have B1 := Lib.hid (B0.out.acc P0.out hf)
  have F1 := Lib.hid (F0.out.trans (hf.mono (by simp)))
  clear hm hf
  clear P0 B0 F0
  go_wp2_with fail
  (with_reducible refine (onext_any B1.out 2).mono ?_)
  rintro e W2 ⟨rfl, hb, hf⟩
  have P2 := Lib.hid (P1.out.own B1.out hf)
  have B2 := Lib.hid hb
  have F2 := Lib.hid (F1.out.trans (hf.mono (by simp)))
  clear hb hf
  clear P1 B1 F1
  go_wp2
  go_ret
  exact ⟨rfl, P2.out, B2.out, F2.out⟩
set_option maxRecDepth 100000 in
set_option maxHeartbeats 2000000 in
theorem clearer_2 (hp : PE w p m k g cap s t d hd rv ev) (h : OB w q 176 [.int .i64 f.fa, .int .u64 (maskS f.fb)] f 0 0) (hl : f.ln = 2) :
    Calls Try.prog 117 #[.pointer (some ⟨q, 0, none⟩), .pointer (some ⟨p, 0, none⟩)] w (PStepped w p m k g cap (s.go 1 f.qb id) t d hd rv ev q 176 [.int .i64 f.fa, .int .u64 (maskS f.fb)] { f with fu := s.old f.qb, ln := 3 } .none) := by
  have hqp : p ≠ q := (h.ne hp).1.symm
  have P0 := Lib.hid hp
  have B0 := Lib.hid h
  have F0 := Lib.hid (Fr.refl [m, g, q] w)
  clear hp h
  have hc0 := oline_any B0.out
  rw [hl] at hc0
  have HC0 := Lib.hid hc0
  clear hc0
  go_enter Try.func117, Try.ntmps117
  go_wp2_with fail
  (with_reducible refine HC0.out.mono ?_)
  rintro e wx ⟨rfl, rfl⟩
  clear HC0
  go_wp2_with fail
  (with_reducible refine (oloadBottom_any P0.out B0.out).mono ?_)
  rintro e W1 ⟨rfl, hp, hb, hf⟩
  have P1 := Lib.hid hp
  have B1 := Lib.hid hb
  have F1 := Lib.hid (F0.out.trans hf)
  clear hp hb hf
  clear P0 B0 F0
  go_wp2_with fail
  (with_reducible refine (onext_any B1.out 3).mono ?_)
  rintro e W2 ⟨rfl, hb, hf⟩
  have P2 := Lib.hid (P1.out.own B1.out hf)
  have B2 := Lib.hid hb
  have F2 := Lib.hid (F1.out.trans (hf.mono (by simp)))
  clear hb hf
  clear P1 B1 F1
  go_wp2
  go_ret
  exact ⟨rfl, P2.out, B2.out, F2.out⟩
set_option maxRecDepth 100000 in
set_option maxHeartbeats 2000000 in
theorem clearer_3e (hp : PE w p m k g cap s t d hd rv ev) (h : OB w q 176 [.int .i64 f.fa, .int .u64 (maskS f.fb)] f 0 0) (hl : f.ln = 3) (hc : sizeI f.fu (s.old f.qt) ≤ 0) :
    Calls Try.prog 117 #[.pointer (some ⟨q, 0, none⟩), .pointer (some ⟨p, 0, none⟩)] w (PStepped w p m k g cap (s.go 1 f.qt id) t d hd rv ev q 176 [.int .i64 f.fa, .int .u64 (maskS f.fb)] { f with fv := s.old f.qt } ⟨true, 2, 0⟩) := by
  have hqp : p ≠ q := (h.ne hp).1.symm
  have P0 := Lib.hid hp
  have B0 := Lib.hid h
  have F0 := Lib.hid (Fr.refl [m, g, q] w)
  clear hp h
  have hc0 := oline_any B0.out
  rw [hl] at hc0
  have HC0 := Lib.hid hc0
  clear hc0
  go_enter Try.func117, Try.ntmps117
  go_wp2_with fail
  (with_reducible refine HC0.out.mono ?_)
  rintro e wx ⟨rfl, rfl⟩
  clear HC0
  have hcb : decide (sizeI f.fu (s.old f.qt) ≤ 0) = true := by simpa using hc
  go_wp2_with fail
  (with_reducible refine (oloadTop_any P0.out B0.out).mono ?_)
  rintro e W1 ⟨rfl, hp, hb, hf⟩
  have P1 := Lib.hid hp
  have B1 := Lib.hid hb
  have F1 := Lib.hid (F0.out.trans hf)
  clear hp hb hf
  clear P0 B0 F0
  go_wp2_with fail
  have c7 : W1.cell? ⟨q, 7, none⟩ = some (.int .u64 f.fu) := B1.out.at_ 7 (by omega)
  have hq := fun (n : Nat) => (osize_any (B1.out.drewN n) (f.fu)).mono (fun e w' (h : e = .returned (.int .i64 (sizeI (f.fu) (s.old f.qt))) ∧ _ = w') => (⟨h.1, h.2.symm⟩ : e = .returned (.int .i64 (sizeI (f.fu) (s.old f.qt))) ∧ w' = _))
  go_quiet ((go_at_call 102; exact Calls.quiet_of_same (hq _)))
  have P2 := Lib.hid (P1.out.drewN nq)
  have B2 := Lib.hid (B1.out.drewN nq)
  have F2 := Lib.hid (F1.out.drewN nq)
  clear c7
  clear hq
  generalize W1.drewN nq = W2 at *
  clear P1 B1 F1
  go_wp2_with fail
  (with_reducible refine (oend_any B2.out 2 0).mono ?_)
  rintro e W3 ⟨rfl, hb, hf⟩
  have P3 := Lib.hid (P2.out.own B2.out hf)
  have B3 := Lib.hid hb
  have F3 := Lib.hid (F2.out.trans (hf.mono (by simp)))
  clear hb hf
  clear P2 B2 F2
  go_wp2
  go_ret
  exact ⟨rfl, P3.out, B3.out, F3.out⟩
set_option maxRecDepth 100000 in
set_option maxHeartbeats 2000000 in
theorem clearer_3 (hp : PE w p m k g cap s t d hd rv ev) (h : OB w q 176 [.int .i64 f.fa, .int .u64 (maskS f.fb)] f 0 0) (hl : f.ln = 3) (hc : ¬ sizeI f.fu (s.old f.qt) ≤ 0) :
    Calls Try.prog 117 #[.pointer (some ⟨q, 0, none⟩), .pointer (some ⟨p, 0, none⟩)] w (PStepped w p m k g cap (s.go 1 f.qt id) t d hd rv ev q 176 [.int .i64 f.fa, .int .u64 (maskS f.fb)] { f with fv := s.old f.qt, ln := 4 } .none) := by
  have hqp : p ≠ q := (h.ne hp).1.symm
  have P0 := Lib.hid hp
  have B0 := Lib.hid h
  have F0 := Lib.hid (Fr.refl [m, g, q] w)
  clear hp h
  have hc0 := oline_any B0.out
  rw [hl] at hc0
  have HC0 := Lib.hid hc0
  clear hc0
  go_enter Try.func117, Try.ntmps117
  go_wp2_with fail
  (with_reducible refine HC0.out.mono ?_)
  rintro e wx ⟨rfl, rfl⟩
  clear HC0
  have hcb : decide (sizeI f.fu (s.old f.qt) ≤ 0) = false := by simpa using hc
  go_wp2_with fail
  (with_reducible refine (oloadTop_any P0.out B0.out).mono ?_)
  rintro e W1 ⟨rfl, hp, hb, hf⟩
  have P1 := Lib.hid hp
  have B1 := Lib.hid hb
  have F1 := Lib.hid (F0.out.trans hf)
  clear hp hb hf
  clear P0 B0 F0
  go_wp2_with fail
  have c7 : W1.cell? ⟨q, 7, none⟩ = some (.int .u64 f.fu) := B1.out.at_ 7 (by omega)
  have hq := fun (n : Nat) => (osize_any (B1.out.drewN n) (f.fu)).mono (fun e w' (h : e = .returned (.int .i64 (sizeI (f.fu) (s.old f.qt))) ∧ _ = w') => (⟨h.1, h.2.symm⟩ : e = .returned (.int .i64 (sizeI (f.fu) (s.old f.qt))) ∧ w' = _))
  go_quiet ((go_at_call 102; exact Calls.quiet_of_same (hq _)))
  have P2 := Lib.hid (P1.out.drewN nq)
  have B2 := Lib.hid (B1.out.drewN nq)
  have F2 := Lib.hid (F1.out.drewN nq)
  clear c7
  clear hq
  generalize W1.drewN nq = W2 at *
  clear P1 B1 F1
  go_wp2_with fail
  (with_reducible refine (onext_any B2.out 4).mono ?_)
  rintro e W3 ⟨rfl, hb, hf⟩
  have P3 := Lib.hid (P2.out.own B2.out hf)
  have B3 := Lib.hid hb
  have F3 := Lib.hid (F2.out.trans (hf.mono (by simp)))
  clear hb hf
  clear P2 B2 F2
  go_wp2
  go_ret
  exact ⟨rfl, P3.out, B3.out, F3.out⟩
set_option maxRecDepth 100000 in
set_option maxHeartbeats 2000000 in
theorem clearer_4 (hp : PE w p m k g cap s t d hd rv ev) (h : OB w q 176 [.int .i64 f.fa, .int .u64 (maskS f.fb)] f 0 0) (hl : f.ln = 4) :
    Calls Try.prog 117 #[.pointer (some ⟨q, 0, none⟩), .pointer (some ⟨p, 0, none⟩)] w (PStepped w p m k g cap (s.go 4 f.fa (fun x => bits .or .u64 x (maskS f.fb))) t d hd rv ev q 176 [.int .i64 f.fa, .int .u64 (maskS f.fb)] f ⟨true, 1, 0⟩) := by
  have hqp : p ≠ q := (h.ne hp).1.symm
  have P0 := Lib.hid hp
  have B0 := Lib.hid h
  have F0 := Lib.hid (Fr.refl [m, g, q] w)
  clear hp h
  have hc0 := oline_any B0.out
  rw [hl] at hc0
  have HC0 := Lib.hid hc0
  clear hc0
  go_enter Try.func117, Try.ntmps117
  go_wp2_with fail
  (with_reducible refine HC0.out.mono ?_)
  rintro e wx ⟨rfl, rfl⟩
  clear HC0
  go_wp2_with fail
  (with_reducible refine (raise_any P0.out  B0.out.blk (B0.out.ne P0.out).2.1 (B0.out.ne P0.out).2.2.2 (o := 9) rfl rfl).mono ?_)
  rintro e W1 ⟨rfl, hm, hf⟩
  have P1 := Lib.hid (P0.out.acc hm hf)
  have B1 := Lib.hid (B0.out.acc P0.out hf)
  have F1 := Lib.hid (F0.out.trans (hf.mono (by simp)))
  clear hm hf
  clear P0 B0 F0
  go_wp2_with fail
  (with_reducible refine (oend_any B1.out 1 0).mono ?_)
  rintro e W2 ⟨rfl, hb, hf⟩
  have P2 := Lib.hid (P1.out.own B1.out hf)
  have B2 := Lib.hid hb
  have F2 := Lib.hid (F1.out.trans (hf.mono (by simp)))
  clear hb hf
  clear P1 B1 F1
  go_wp2
  go_ret
  exact ⟨rfl, P2.out, B2.out, F2.out⟩
set_option maxRecDepth 100000 in
/-- A clearer that is done. -/
theorem clearer_over {ty : TypeId} {post : List Value} {cd vl : Int} (h : OB w q ty post { f with ln := 0 } cd vl) (v : Value) :
    Calls Try.prog 117 #[.pointer (some ⟨q, 0, none⟩), v] w fun e w' => e = .returned (.bool true) ∧ w = w' := by
  have HC := Lib.hid (oline_any h)
  clear h
  go_enter Try.func117, Try.ntmps117
  go_wp2_with fail
  (with_reducible refine HC.out.mono ?_)
  rintro e wx ⟨rfl, rfl⟩
  go_wp2
  go_ret
  exact ⟨rfl, rfl⟩
theorem clearer_any (hp : PE w p m k g cap s t d hd rv ev) (h : OB w q 176 [.int .i64 f.fa, .int .u64 (maskS f.fb)] f 0 0) (hl : f.ln = 1 ∨ f.ln = 2 ∨ f.ln = 3 ∨ f.ln = 4) :
    Calls Try.prog 117 #[.pointer (some ⟨q, 0, none⟩), .pointer (some ⟨p, 0, none⟩)] w (PStepped w p m k g cap (clearS s f).1 t d hd rv ev q 176 [.int .i64 (clearS s f).2.1.fa, .int .u64 (maskS (clearS s f).2.1.fb)] (clearS s f).2.1 (clearS s f).2.2) := by
  rcases hl with hl | hl | hl | hl
  · rw [clearS, if_pos hl]
    exact clearer_1 hp h hl
  · rw [clearS, if_neg (show ¬ f.ln = 1 by omega), if_pos hl]
    exact clearer_2 hp h hl
  · rw [clearS, if_neg (show ¬ f.ln = 1 by omega), if_neg (show ¬ f.ln = 2 by omega), if_pos hl]
    by_cases hc : sizeI f.fu (s.old f.qt) ≤ 0
    · rw [if_pos hc]
      exact clearer_3e hp h hl hc
    · rw [if_neg hc]
      exact clearer_3 hp h hl hc
  · rw [clearS, if_neg (show ¬ f.ln = 1 by omega), if_neg (show ¬ f.ln = 2 by omega), if_neg (show ¬ f.ln = 3 by omega)]
    exact clearer_4 hp h hl

set_option maxRecDepth 100000 in
set_option maxHeartbeats 2000000 in
theorem setter_any (hp : PE w p m k g cap s t d hd rv ev) (h : LB w q 163 [.int .i64 f.fa, .int .u64 (maskS f.fb)] f 0 0) (hl : f.ln = 1) :
    Calls Try.prog 107 #[.pointer (some ⟨q, 0, none⟩), .pointer (some ⟨p, 0, none⟩)] w (LStepped w p m k g cap (setS s f).1 t d hd rv ev q 163 [.int .i64 (setS s f).2.1.fa, .int .u64 (maskS (setS s f).2.1.fb)] (setS s f).2.1 (setS s f).2.2) := by
  have P0 := Lib.hid hp
  have B0 := Lib.hid h
  have F0 := Lib.hid (Fr.refl [m, g, q] w)
  clear hp h
  have hc0 := lline_any B0.out
  rw [hl] at hc0
  have HC0 := Lib.hid hc0
  clear hc0
  go_enter Try.func107, Try.ntmps107
  go_wp2_with fail
  (with_reducible refine HC0.out.mono ?_)
  rintro e wx ⟨rfl, rfl⟩
  clear HC0
  go_wp2_with fail
  (with_reducible refine (raise_any P0.out B0.out.blk (B0.out.ne P0.out).2.1 (B0.out.ne P0.out).2.2.2 (o := 3) rfl rfl).mono ?_)
  rintro e W1 ⟨rfl, hm, hf⟩
  have P1 := Lib.hid (P0.out.acc hm hf)
  have B1 := Lib.hid (B0.out.acc P0.out hf)
  have F1 := Lib.hid (F0.out.trans (hf.mono (by simp)))
  clear hm hf
  clear P0 B0 F0
  go_wp2_with fail
  (with_reducible refine (lend_any B1.out 0 0).mono ?_)
  rintro e W2 ⟨rfl, hb, hf⟩
  have P2 := Lib.hid (P1.out.lown B1.out hf)
  have B2 := Lib.hid hb
  have F2 := Lib.hid (F1.out.trans (hf.mono (by simp)))
  clear hb hf
  clear P1 B1 F1
  go_wp2
  go_ret
  exact ⟨rfl, P2.out, B2.out, F2.out⟩
set_option maxRecDepth 100000 in
/-- A setter that is done. -/
theorem setter_over {ty : TypeId} {post : List Value} {cd vl : Int} (h : LB w q ty post { f with ln := 0 } cd vl) (v : Value) :
    Calls Try.prog 107 #[.pointer (some ⟨q, 0, none⟩), v] w fun e w' => e = .returned (.bool true) ∧ w = w' := by
  have HC := Lib.hid (lline_any h)
  clear h
  go_enter Try.func107, Try.ntmps107
  go_wp2_with fail
  (with_reducible refine HC.out.mono ?_)
  rintro e wx ⟨rfl, rfl⟩
  go_wp2
  go_ret
  exact ⟨rfl, rfl⟩
end
end Go.Proofs.Ytmoblcfjplolgaa
