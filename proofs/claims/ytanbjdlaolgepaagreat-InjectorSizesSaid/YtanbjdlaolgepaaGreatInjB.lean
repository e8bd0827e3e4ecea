/-
  Package injector: the inserter, line by line. (Written by wip/gen_inj.py.)
-/
import Derived.Test.YtanbjdlaolgepaaGreatInjA
import Derived.Test.YtanbjdlaolgepaaGreatPakA
namespace Go.Proofs.YtanbjdlaolgepaaGreat
open Go Go.RowKit Go.Shelf
set_option linter.unusedSimpArgs false
set_option linter.unusedVariables false


/-- The cells of an inserter behind its lines. -/
abbrev ipost (f : Fra) : List Value := [.int .i64 f.fn, .int .i64 f.fi, .int .i64 f.fa, .int .i64 f.fb, .int .u64 f.fw, .int .u64 f.fx]
/-- What a step of a machine of package injector gives, line by line. -/
def ILine (w : World) (p m k g cap : Nat) (s' : St) (t d : Int) (hd : List Value) (rv ev : Value) (q : Nat) (ty : TypeId) (post : Fra → List Value) (f' : Fra) (r : Res) (e : Ending) (w' : World) : Prop :=
  e = .returned (.bool r.dn) ∧ PE w' p m k g cap s' t d hd rv ev ∧ LB w' q ty (post f') (if r.dn then { f' with ln := 0 } else f') r.cd r.vl ∧ Fr [m, g, q] w w'
section
variable {w : World} {p m k g cap : Nat} {s : St} {t d : Int} {hd : List Value} {rv ev : Value} {q : Nat} {f : Fra} {c : Cfg}

set_option maxRecDepth 100000 in
set_option maxHeartbeats 4000000 in
theorem iparent_any (h : LB w q 112 (ipost f) f 0 0) :
    Calls Tryz.prog 197 #[.pointer (some ⟨q, 0, none⟩)] w fun e w' => e = .returned (.int .i64 (parI f.fi)) ∧ w = w' := by
  have c4 : w.cell? ⟨q, 4, none⟩ = some (.int .i64 f.fi) := h.blk.at_ 4
  clear h
  go_enter Tryz.func197, Tryz.ntmps197
  go_wp2
  go_ret
  exact ⟨rfl, rfl⟩

set_option maxRecDepth 100000 in
set_option maxHeartbeats 4000000 in
theorem irise_y (h : LB w q 112 (ipost f) f 0 0) (hc : 0 < f.fi) :
    Calls Tryz.prog 196 #[.pointer (some ⟨q, 0, none⟩)] w fun e w' => e = .returned (.bool false) ∧ LB w' q 112 (ipost f) { f with ln := 3 } 0 0 ∧ Fr [q] w w' := by
  have c4 : w.cell? ⟨q, 4, none⟩ = some (.int .i64 f.fi) := h.blk.at_ 4
  have hd0 : decide (0 < f.fi) = true := by simpa using hc
  have H := Lib.hid h
  clear h hc
  go_enter Tryz.func196, Tryz.ntmps196
  go_wp2_with fail
  (with_reducible refine (lnext_any H.out 3).mono ?_)
  rintro e w1 ⟨rfl, hb, hf⟩
  go_wp2
  go_ret
  exact ⟨rfl, hb, hf⟩

set_option maxRecDepth 100000 in
set_option maxHeartbeats 4000000 in
theorem irise_n (h : LB w q 112 (ipost f) f 0 0) (hc : f.fi ≤ 0) :
    Calls Tryz.prog 196 #[.pointer (some ⟨q, 0, none⟩)] w fun e w' => e = .returned (.bool false) ∧ LB w' q 112 (ipost f) { f with ln := 5 } 0 0 ∧ Fr [q] w w' := by
  have c4 : w.cell? ⟨q, 4, none⟩ = some (.int .i64 f.fi) := h.blk.at_ 4
  have hd0 : decide (0 < f.fi) = false := by simpa using hc
  have H := Lib.hid h
  clear h hc
  go_enter Tryz.func196, Tryz.ntmps196
  go_wp2_with fail
  (with_reducible refine (lnext_any H.out 5).mono ?_)
  rintro e w1 ⟨rfl, hb, hf⟩
  go_wp2
  go_ret
  exact ⟨rfl, hb, hf⟩

set_option maxRecDepth 100000 in
set_option maxHeartbeats 4000000 in
theorem inumber_y (hp : PE w p m k g cap s t d hd rv ev) (hl : LayHd hd c) (h : LB w q 112 (ipost f) f 0 0) {o3 : Int} (ho : s.old 3 = o3) (hk : Keyed f.fa (IntKind.i64.wrap o3) f.fb) :
    Calls Tryz.prog 195 #[.pointer (some ⟨q, 0, none⟩), .pointer (some ⟨p, 0, none⟩)] w fun e w' => e = .returned (.bool true) ∧ PE w' p m k g cap (s.go 6 3 (fun x => IntKind.u64.wrap (x + 1))) t d hd rv ev ∧ LB w' q 112 (ipost { f with fw := (keyS f.fa (IntKind.i64.wrap o3) f.fb) }) { f with fw := (keyS f.fa (IntKind.i64.wrap o3) f.fb) } 0 0 ∧ Fr [m, g, q] w w' := by
  have P0 := Lib.hid hp
  have B0 := Lib.hid h
  have F0 := Lib.hid (Fr.refl [m, g, q] w)
  have HL := Lib.hid hl
  clear hp h hl
  have HK := Lib.hid hk
  have HO := Lib.hid ho
  clear hk ho
  go_enter Tryz.func195, Tryz.ntmps195
  go_wp2_with fail
  have P1 := Lib.hid (P0.out.drewN 1)
  have B1 := Lib.hid B0.out.drew
  have F1 := Lib.hid F0.out.drew
  clear P0 B0 F0
  obtain ⟨dl0, dl1, dl2, dl3, dl4, dl5, dl6, dl7, dl8⟩ := P1.out.layS HL.out
  change w.drew.cell? _ = _ at dl0 dl1 dl2 dl3 dl4 dl5 dl6 dl7 dl8
  have d20 : w.drew.cell? ⟨p, 20, none⟩ = some (.pointer (some ⟨m, 0, none⟩)) := P1.out.at20
  go_region_held3 (fun w' => w'.cell? ⟨p, 11, none⟩ = some (.int .i64 4) ∧ w'.cell? ⟨p, 12, none⟩ = some (.int .i64 (4 + c.he)) ∧ w'.cell? ⟨p, 13, none⟩ = some (.int .i64 (4 + c.he + c.cl)) ∧ w'.cell? ⟨p, 14, none⟩ = some (.int .i64 (4 + c.he + c.cl + c.wo)) ∧ w'.cell? ⟨p, 15, none⟩ = some (.int .i64 (rDeques c)) ∧ w'.cell? ⟨p, 16, none⟩ = some (.int .i64 (rDeques c + rAll c)) ∧ w'.cell? ⟨p, 17, none⟩ = some (.int .i64 (rCells c)) ∧ w'.cell? ⟨p, 18, none⟩ = some (.int .i64 c.le) ∧ w'.cell? ⟨p, 19, none⟩ = some (.int .i64 c.de) ∧ w'.cell? ⟨p, 20, none⟩ = some (.pointer (some ⟨m, 0, none⟩))) ((first | exact ⟨bl0, bl1, bl2, bl3, bl4, bl5, bl6, bl7, bl8, b20⟩ | exact ⟨al0, al1, al2, al3, al4, al5, al6, al7, al8, a20⟩ | exact ⟨dl0, dl1, dl2, dl3, dl4, dl5, dl6, dl7, dl8, d20⟩ | go_keep))
    (first
      | (go_at_call 166
         refine (larrival_any (c := c)).mono ?_
         rintro e W2 ⟨rfl, hb⟩
         have P2 := Lib.hid (P1.out.below hb)
         have B2 := Lib.hid (B1.out.below hb)
         have F2 := Lib.hid (F1.out.trans (Fr.old hb))
         clear hb
         obtain ⟨al0, al1, al2, al3, al4, al5, al6, al7, al8⟩ := P2.out.layS HL.out
         change W2.cell? _ = _ at al0 al1 al2 al3 al4 al5 al6 al7 al8
         have a20 : W2.cell? ⟨p, 20, none⟩ = some (.pointer (some ⟨m, 0, none⟩)) := P2.out.at20)
      | (go_at_call 198
         refine (add_any P2.out.mem _ 1).mono ?_
         rintro e W3 ⟨rfl, hm, hf⟩
         have P3 := Lib.hid (P2.out.acc hm hf)
         have B3 := Lib.hid (B2.out.acc P2.out hf)
         have F3 := Lib.hid (F2.out.trans (hf.mono (by simp)))
         clear hm hf
         obtain ⟨bl0, bl1, bl2, bl3, bl4, bl5, bl6, bl7, bl8⟩ := P3.out.layS HL.out
         change W3.cell? _ = _ at bl0 bl1 bl2 bl3 bl4 bl5 bl6 bl7 bl8
         have b20 : W3.cell? ⟨p, 20, none⟩ = some (.pointer (some ⟨m, 0, none⟩)) := P3.out.at20))
  clear dl0 dl1 dl2 dl3 dl4 dl5 dl6 dl7 dl8 d20 al0 al1 al2 al3 al4 al5 al6 al7 al8 a20 bl0 bl1 bl2 bl3 bl4 bl5 bl6 bl7 bl8 b20 P1 B1 F1 P2 B2 F2
  rw [HO.out]
  go_wp2_with fail
  have P4 := Lib.hid (P3.out.drewN 1)
  have B4 := Lib.hid B3.out.drew
  have F4 := Lib.hid F3.out.drew
  clear P3 B3 F3
  have d20 : W3.drew.cell? ⟨p, 20, none⟩ = some (.pointer (some ⟨m, 0, none⟩)) := P4.out.at20
  have d5 : W3.drew.cell? ⟨q, 5, none⟩ = some (.int .i64 f.fa) := B4.out.blk.at_ 5
  have d6 : W3.drew.cell? ⟨q, 6, none⟩ = some (.int .i64 f.fb) := B4.out.blk.at_ 6
  go_region_held3 (fun w' => w'.cell? ⟨p, 20, none⟩ = some (.pointer (some ⟨m, 0, none⟩)) ∧ w'.cell? ⟨q, 5, none⟩ = some (.int .i64 f.fa) ∧ w'.cell? ⟨q, 6, none⟩ = some (.int .i64 f.fb)) ((first | exact ⟨v20, v5, v6⟩ | exact ⟨a20, a5, a6⟩ | exact ⟨d20, d5, d6⟩ | go_keep))
    ((go_at_call 199
      (with_reducible refine (ppack_ok _ _ _ HK.out _).mono ?_)
      rintro e wx ⟨rfl, rfl⟩
      skip
      have cs7 : W3.drew.cell? ⟨q, 7, none⟩ = some (.int .u64 f.fw) := B4.out.blk.at_ 7
      have ks7 := B4.out.blk.free 7
      have B5 := Lib.hid (B4.out.putg 7 (.int .u64 (keyS f.fa (IntKind.i64.wrap o3) f.fb)) (ipost { f with fw := (keyS f.fa (IntKind.i64.wrap o3) f.fb) }) { f with fw := (keyS f.fa (IntKind.i64.wrap o3) f.fb) } rfl)
      have P5 := Lib.hid (P4.out.lown B4.out ((Fr.refl [q] W3.drew).setCell (p := ⟨q, 7, none⟩) (by simp) (.int .u64 (keyS f.fa (IntKind.i64.wrap o3) f.fb))))
      have F5 := Lib.hid (F4.out.trans (((Fr.refl [q] W3.drew).setCell (p := ⟨q, 7, none⟩) (by simp) (.int .u64 (keyS f.fa (IntKind.i64.wrap o3) f.fb))).mono (by simp)))
      have v20 : (W3.drew.setCell ⟨q, 7, none⟩ (.int .u64 (keyS f.fa (IntKind.i64.wrap o3) f.fb))).cell? ⟨p, 20, none⟩ = some (.pointer (some ⟨m, 0, none⟩)) := P5.out.at20
      have v5 : (W3.drew.setCell ⟨q, 7, none⟩ (.int .u64 (keyS f.fa (IntKind.i64.wrap o3) f.fb))).cell? ⟨q, 5, none⟩ = some (.int .i64 f.fa) := B5.out.blk.at_ 5
      have v6 : (W3.drew.setCell ⟨q, 7, none⟩ (.int .u64 (keyS f.fa (IntKind.i64.wrap o3) f.fb))).cell? ⟨q, 6, none⟩ = some (.int .i64 f.fb) := B5.out.blk.at_ 6))
  clear d20 d5 d6 v20 v5 v6 cs7 ks7 P4 B4 F4
  go_wp2
  go_ret
  exact ⟨rfl, P5.out, B5.out, F5.out⟩
set_option maxRecDepth 100000 in
set_option maxHeartbeats 4000000 in
theorem inumber_n (hp : PE w p m k g cap s t d hd rv ev) (hl : LayHd hd c) (h : LB w q 112 (ipost f) f 0 0) {o3 : Int} (ho : s.old 3 = o3) (hk : ¬ Keyed f.fa (IntKind.i64.wrap o3) f.fb) :
    Calls Tryz.prog 195 #[.pointer (some ⟨q, 0, none⟩), .pointer (some ⟨p, 0, none⟩)] w fun e w' => e = .returned (.bool false) ∧ PE w' p m k g cap (s.go 6 3 (fun x => IntKind.u64.wrap (x + 1))) t d hd rv ev ∧ LB w' q 112 (ipost { f with fw := 0 }) { f with fw := 0 } 0 0 ∧ Fr [m, g, q] w w' := by
  have P0 := Lib.hid hp
  have B0 := Lib.hid h
  have F0 := Lib.hid (Fr.refl [m, g, q] w)
  have HL := Lib.hid hl
  clear hp h hl
  have HK := Lib.hid hk
  have HO := Lib.hid ho
  clear hk ho
  go_enter Tryz.func195, Tryz.ntmps195
  go_wp2_with fail
  have P1 := Lib.hid (P0.out.drewN 1)
  have B1 := Lib.hid B0.out.drew
  have F1 := Lib.hid F0.out.drew
  clear P0 B0 F0
  obtain ⟨dl0, dl1, dl2, dl3, dl4, dl5, dl6, dl7, dl8⟩ := P1.out.layS HL.out
  change w.drew.cell? _ = _ at dl0 dl1 dl2 dl3 dl4 dl5 dl6 dl7 dl8
  have d20 : w.drew.cell? ⟨p, 20, none⟩ = some (.pointer (some ⟨m, 0, none⟩)) := P1.out.at20
  go_region_held3 (fun w' => w'.cell? ⟨p, 11, none⟩ = some (.int .i64 4) ∧ w'.cell? ⟨p, 12, none⟩ = some (.int .i64 (4 + c.he)) ∧ w'.cell? ⟨p, 13, none⟩ = some (.int .i64 (4 + c.he + c.cl)) ∧ w'.cell? ⟨p, 14, none⟩ = some (.int .i64 (4 + c.he + c.cl + c.wo)) ∧ w'.cell? ⟨p, 15, none⟩ = some (.int .i64 (rDeques c)) ∧ w'.cell? ⟨p, 16, none⟩ = some (.int .i64 (rDeques c + rAll c)) ∧ w'.cell? ⟨p, 17, none⟩ = some (.int .i64 (rCells c)) ∧ w'.cell? ⟨p, 18, none⟩ = some (.int .i64 c.le) ∧ w'.cell? ⟨p, 19, none⟩ = some (.int .i64 c.de) ∧ w'.cell? ⟨p, 20, none⟩ = some (.pointer (some ⟨m, 0, none⟩))) ((first | exact ⟨bl0, bl1, bl2, bl3, bl4, bl5, bl6, bl7, bl8, b20⟩ | exact ⟨al0, al1, al2, al3, al4, al5, al6, al7, al8, a20⟩ | exact ⟨dl0, dl1, dl2, dl3, dl4, dl5, dl6, dl7, dl8, d20⟩ | go_keep))
    (first
      | (go_at_call 166
         refine (larrival_any (c := c)).mono ?_
         rintro e W2 ⟨rfl, hb⟩
         have P2 := Lib.hid (P1.out.below hb)
         have B2 := Lib.hid (B1.out.below hb)
         have F2 := Lib.hid (F1.out.trans (Fr.old hb))
         clear hb
         obtain ⟨al0, al1, al2, al3, al4, al5, al6, al7, al8⟩ := P2.out.layS HL.out
         change W2.cell? _ = _ at al0 al1 al2 al3 al4 al5 al6 al7 al8
         have a20 : W2.cell? ⟨p, 20, none⟩ = some (.pointer (some ⟨m, 0, none⟩)) := P2.out.at20)
      | (go_at_call 198
         refine (add_any P2.out.mem _ 1).mono ?_
         rintro e W3 ⟨rfl, hm, hf⟩
         have P3 := Lib.hid (P2.out.acc hm hf)
         have B3 := Lib.hid (B2.out.acc P2.out hf)
         have F3 := Lib.hid (F2.out.trans (hf.mono (by simp)))
         clear hm hf
         obtain ⟨bl0, bl1, bl2, bl3, bl4, bl5, bl6, bl7, bl8⟩ := P3.out.layS HL.out
         change W3.cell? _ = _ at bl0 bl1 bl2 bl3 bl4 bl5 bl6 bl7 bl8
         have b20 : W3.cell? ⟨p, 20, none⟩ = some (.pointer (some ⟨m, 0, none⟩)) := P3.out.at20))
  clear dl0 dl1 dl2 dl3 dl4 dl5 dl6 dl7 dl8 d20 al0 al1 al2 al3 al4 al5 al6 al7 al8 a20 bl0 bl1 bl2 bl3 bl4 bl5 bl6 bl7 bl8 b20 P1 B1 F1 P2 B2 F2
  rw [HO.out]
  go_wp2_with fail
  have P4 := Lib.hid (P3.out.drewN 1)
  have B4 := Lib.hid B3.out.drew
  have F4 := Lib.hid F3.out.drew
  clear P3 B3 F3
  have d20 : W3.drew.cell? ⟨p, 20, none⟩ = some (.pointer (some ⟨m, 0, none⟩)) := P4.out.at20
  have d5 : W3.drew.cell? ⟨q, 5, none⟩ = some (.int .i64 f.fa) := B4.out.blk.at_ 5
  have d6 : W3.drew.cell? ⟨q, 6, none⟩ = some (.int .i64 f.fb) := B4.out.blk.at_ 6
  go_region_held3 (fun w' => w'.cell? ⟨p, 20, none⟩ = some (.pointer (some ⟨m, 0, none⟩)) ∧ w'.cell? ⟨q, 5, none⟩ = some (.int .i64 f.fa) ∧ w'.cell? ⟨q, 6, none⟩ = some (.int .i64 f.fb)) ((first | exact ⟨v20, v5, v6⟩ | exact ⟨a20, a5, a6⟩ | exact ⟨d20, d5, d6⟩ | go_keep))
    ((go_at_call 199
      (with_reducible refine (ppack_no _ _ _ HK.out _).mono ?_)
      rintro e wx ⟨rfl, rfl⟩
      skip
      have cs7 : W3.drew.cell? ⟨q, 7, none⟩ = some (.int .u64 f.fw) := B4.out.blk.at_ 7
      have ks7 := B4.out.blk.free 7
      have B5 := Lib.hid (B4.out.putg 7 (.int .u64 0) (ipost { f with fw := 0 }) { f with fw := 0 } rfl)
      have P5 := Lib.hid (P4.out.lown B4.out ((Fr.refl [q] W3.drew).setCell (p := ⟨q, 7, none⟩) (by simp) (.int .u64 0)))
      have F5 := Lib.hid (F4.out.trans (((Fr.refl [q] W3.drew).setCell (p := ⟨q, 7, none⟩) (by simp) (.int .u64 0)).mono (by simp)))
      have v20 : (W3.drew.setCell ⟨q, 7, none⟩ (.int .u64 0)).cell? ⟨p, 20, none⟩ = some (.pointer (some ⟨m, 0, none⟩)) := P5.out.at20
      have v5 : (W3.drew.setCell ⟨q, 7, none⟩ (.int .u64 0)).cell? ⟨q, 5, none⟩ = some (.int .i64 f.fa) := B5.out.blk.at_ 5
      have v6 : (W3.drew.setCell ⟨q, 7, none⟩ (.int .u64 0)).cell? ⟨q, 6, none⟩ = some (.int .i64 f.fb) := B5.out.blk.at_ 6))
  clear d20 d5 d6 v20 v5 v6 cs7 ks7 P4 B4 F4
  go_wp2
  go_ret
  exact ⟨rfl, P5.out, B5.out, F5.out⟩
set_option maxRecDepth 100000 in
set_option maxHeartbeats 4000000 in
theorem insr_1f (hin : CfgIn c) (hp : PE w p m k g cap s t d hd rv ev) (hl : LayHd hd c) (h : LB w q 112 (ipost f) f 0 0) (hl1 : f.ln = 1) (hc : c.he ≤ wrap64 (s.old 2)) :
    Calls Tryz.prog 194 #[.pointer (some ⟨q, 0, none⟩), .pointer (some ⟨p, 0, none⟩)] w (ILine w p m k g cap (s.go 1 2 id) t d hd rv ev q 112 ipost { f with fn := wrap64 (s.old 2) } ⟨true, 3, 0⟩) := by
  have P0 := Lib.hid hp
  have B0 := Lib.hid h
  have F0 := Lib.hid (Fr.refl [m, g, q] w)
  have HL := Lib.hid hl
  clear hp h hl
  have HIN := Lib.hid hin
  clear hin
  have hc0 := lline_any B0.out
  rw [hl1] at hc0
  have HC0 := Lib.hid hc0
  clear hc0
  go_enter Tryz.func194, Tryz.ntmps194
  go_wp2_with fail
  (with_reducible refine HC0.out.mono ?_)
  rintro e wx ⟨rfl, rfl⟩
  clear HC0
  have hd0 : decide (c.he ≤ wrap64 (s.old 2)) = true := by simpa using hc
  go_wp2_with fail
  (with_reducible refine (hloadSize_any (f := f) P0.out HL.out B0.out).mono ?_)
  rintro e W1 ⟨rfl, hp, hb, hf⟩
  have P1 := Lib.hid hp
  have B1 := Lib.hid hb
  have F1 := Lib.hid (F0.out.trans hf)
  clear hp hb hf
  clear P0 B0 F0
  have c3 : W1.cell? ⟨q, 3, none⟩ = some (.int .i64 (wrap64 (s.old 2))) := B1.out.blk.at_ 3
  have p5 : W1.cell? ⟨p, 5, none⟩ = some (.int .i64 c.he) := P1.out.num HL.out 5 (by omega)
  go_wp2_with fail
  go_quiet (fail)
  have P2 := Lib.hid (P1.out.drewN nq)
  have B2 := Lib.hid (B1.out.drewN nq)
  have F2 := Lib.hid (F1.out.drewN nq)
  clear c3 p5
  generalize W1.drewN nq = W2 at *
  clear P1 B1 F1
  go_wp2_with fail
  (with_reducible refine (lend_any B2.out 3 0).mono ?_)
  rintro e W3 ⟨rfl, hb, hf⟩
  have P3 := Lib.hid (P2.out.lown B2.out hf)
  have B3 := Lib.hid hb
  have F3 := Lib.hid (F2.out.trans (hf.mono (by simp)))
  clear hb hf
  clear P2 B2 F2
  go_wp2
  go_ret
  exact ⟨rfl, P3.out, B3.out, F3.out⟩
set_option maxRecDepth 100000 in
set_option maxHeartbeats 4000000 in
theorem insr_1 (hin : CfgIn c) (hp : PE w p m k g cap s t d hd rv ev) (hl : LayHd hd c) (h : LB w q 112 (ipost f) f 0 0) (hl1 : f.ln = 1) (hc : ¬ c.he ≤ wrap64 (s.old 2)) :
    Calls Tryz.prog 194 #[.pointer (some ⟨q, 0, none⟩), .pointer (some ⟨p, 0, none⟩)] w (ILine w p m k g cap (s.go 1 2 id) t d hd rv ev q 112 ipost { f with fn := wrap64 (s.old 2), ln := 2 } .none) := by
  have P0 := Lib.hid hp
  have B0 := Lib.hid h
  have F0 := Lib.hid (Fr.refl [m, g, q] w)
  have HL := Lib.hid hl
  clear hp h hl
  have HIN := Lib.hid hin
  clear hin
  have hc0 := lline_any B0.out
  rw [hl1] at hc0
  have HC0 := Lib.hid hc0
  clear hc0
  go_enter Tryz.func194, Tryz.ntmps194
  go_wp2_with fail
  (with_reducible refine HC0.out.mono ?_)
  rintro e wx ⟨rfl, rfl⟩
  clear HC0
  have hd0 : decide (c.he ≤ wrap64 (s.old 2)) = false := by simpa using hc
  go_wp2_with fail
  (with_reducible refine (hloadSize_any (f := f) P0.out HL.out B0.out).mono ?_)
  rintro e W1 ⟨rfl, hp, hb, hf⟩
  have P1 := Lib.hid hp
  have B1 := Lib.hid hb
  have F1 := Lib.hid (F0.out.trans hf)
  clear hp hb hf
  clear P0 B0 F0
  have c3 : W1.cell? ⟨q, 3, none⟩ = some (.int .i64 (wrap64 (s.old 2))) := B1.out.blk.at_ 3
  have p5 : W1.cell? ⟨p, 5, none⟩ = some (.int .i64 c.he) := P1.out.num HL.out 5 (by omega)
  go_wp2_with fail
  go_quiet (fail)
  have P2 := Lib.hid (P1.out.drewN nq)
  have B2 := Lib.hid (B1.out.drewN nq)
  have F2 := Lib.hid (F1.out.drewN nq)
  clear c3 p5
  generalize W1.drewN nq = W2 at *
  clear P1 B1 F1
  go_wp2_with fail
  (with_reducible refine (lnext_any B2.out 2).mono ?_)
  rintro e W3 ⟨rfl, hb, hf⟩
  have P3 := Lib.hid (P2.out.lown B2.out hf)
  have B3 := Lib.hid hb
  have F3 := Lib.hid (F2.out.trans (hf.mono (by simp)))
  clear hb hf
  clear P2 B2 F2
  go_wp2
  go_ret
  exact ⟨rfl, P3.out, B3.out, F3.out⟩
set_option maxRecDepth 100000 in
set_option maxHeartbeats 4000000 in
theorem insr_2n (hin : CfgIn c) (hp : PE w p m k g cap s t d hd rv ev) (hl : LayHd hd c) (h : LB w q 112 (ipost f) f 0 0) (hl1 : f.ln = 2) (hk : ¬ Keyed f.fa (IntKind.i64.wrap (s.old 3)) f.fb) :
    Calls Tryz.prog 194 #[.pointer (some ⟨q, 0, none⟩), .pointer (some ⟨p, 0, none⟩)] w (ILine w p m k g cap (s.go 6 3 (fun x => IntKind.u64.wrap (x + 1))) t d hd rv ev q 112 ipost { f with fw := 0 } ⟨true, 4, 0⟩) := by
  have P0 := Lib.hid hp
  have B0 := Lib.hid h
  have F0 := Lib.hid (Fr.refl [m, g, q] w)
  have HL := Lib.hid hl
  clear hp h hl
  have HIN := Lib.hid hin
  clear hin
  have hc0 := lline_any B0.out
  rw [hl1] at hc0
  have HC0 := Lib.hid hc0
  clear hc0
  go_enter Tryz.func194, Tryz.ntmps194
  go_wp2_with fail
  (with_reducible refine HC0.out.mono ?_)
  rintro e wx ⟨rfl, rfl⟩
  clear HC0
  go_wp2_with fail
  (with_reducible refine (inumber_n P0.out HL.out B0.out rfl hk).mono ?_)
  rintro e W1 ⟨rfl, hp, hb, hf⟩
  have P1 := Lib.hid hp
  have B1 := Lib.hid hb
  have F1 := Lib.hid (F0.out.trans hf)
  clear hp hb hf
  clear P0 B0 F0
  go_wp2_with fail
  (with_reducible refine (lend_any B1.out 4 0).mono ?_)
  rintro e W2 ⟨rfl, hb, hf⟩
  have P2 := Lib.hid (P1.out.lown B1.out hf)
  have B2 := Lib.hid hb
  have F2 := Lib.hid (F1.out.trans (hf.mono (by simp)))
  clear hb hf
  clear P1 B1 F1
  go_wp2
  go_ret
  exact ⟨rfl, P2.out, B2.out, F2.out⟩
set_option maxRecDepth 100000 in
set_option maxHeartbeats 4000000 in
theorem insr_2y (hin : CfgIn c) (hp : PE w p m k g cap s t d hd rv ev) (hl : LayHd hd c) (h : LB w q 112 (ipost f) f 0 0) (hl1 : f.ln = 2) (hk : Keyed f.fa (IntKind.i64.wrap (s.old 3)) f.fb) (hi : 0 < f.fn) :
    Calls Tryz.prog 194 #[.pointer (some ⟨q, 0, none⟩), .pointer (some ⟨p, 0, none⟩)] w (ILine w p m k g cap (s.go 6 3 (fun x => IntKind.u64.wrap (x + 1))) t d hd rv ev q 112 ipost { f with fw := keyS f.fa (IntKind.i64.wrap (s.old 3)) f.fb, fi := f.fn, ln := 3 } .none) := by
  have P0 := Lib.hid hp
  have B0 := Lib.hid h
  have F0 := Lib.hid (Fr.refl [m, g, q] w)
  have HL := Lib.hid hl
  clear hp h hl
  have HIN := Lib.hid hin
  clear hin
  have hc0 := lline_any B0.out
  rw [hl1] at hc0
  have HC0 := Lib.hid hc0
  clear hc0
  go_enter Tryz.func194, Tryz.ntmps194
  go_wp2_with fail
  (with_reducible refine HC0.out.mono ?_)
  rintro e wx ⟨rfl, rfl⟩
  clear HC0
  go_wp2_with fail
  (with_reducible refine (inumber_y P0.out HL.out B0.out rfl hk).mono ?_)
  rintro e W1 ⟨rfl, hp, hb, hf⟩
  have P1 := Lib.hid hp
  have B1 := Lib.hid hb
  have F1 := Lib.hid (F0.out.trans hf)
  clear hp hb hf
  clear P0 B0 F0
  have c3 : W1.cell? ⟨q, 3, none⟩ = some (.int .i64 f.fn) := B1.out.blk.at_ 3
  have c4 : W1.cell? ⟨q, 4, none⟩ = some (.int .i64 f.fi) := B1.out.blk.at_ 4
  have k4 := B1.out.blk.free 4
  have B2 := Lib.hid (B1.out.putg 4 (.int .i64 f.fn) (ipost { f with fw := keyS f.fa (IntKind.i64.wrap (s.old 3)) f.fb, fi := f.fn }) { f with fw := keyS f.fa (IntKind.i64.wrap (s.old 3)) f.fb, fi := f.fn } rfl)
  have P2 := Lib.hid (P1.out.lown B1.out ((Fr.refl [q] W1).setCell (p := ⟨q, 4, none⟩) (by simp) (.int .i64 f.fn)))
  have F2 := Lib.hid (F1.out.trans (((Fr.refl [q] W1).setCell (p := ⟨q, 4, none⟩) (by simp) (.int .i64 f.fn)).mono (by simp)))
  go_wp2_with fail
  clear c3 c4 k4
  clear P1 B1 F1
  generalize (W1.setCell ⟨q, 4, none⟩ (.int .i64 f.fn)) = W2 at *
  go_wp2_with fail
  (with_reducible refine (irise_y B2.out hi).mono ?_)
  rintro e W3 ⟨rfl, hb, hf⟩
  have P3 := Lib.hid (P2.out.lown B2.out hf)
  have B3 := Lib.hid hb
  have F3 := Lib.hid (F2.out.trans (hf.mono (by simp)))
  clear hb hf
  clear P2 B2 F2
  go_wp2
  go_ret
  exact ⟨rfl, P3.out, B3.out, F3.out⟩
set_option maxRecDepth 100000 in
set_option maxHeartbeats 4000000 in
theorem insr_2z (hin : CfgIn c) (hp : PE w p m k g cap s t d hd rv ev) (hl : LayHd hd c) (h : LB w q 112 (ipost f) f 0 0) (hl1 : f.ln = 2) (hk : Keyed f.fa (IntKind.i64.wrap (s.old 3)) f.fb) (hi : f.fn ≤ 0) :
    Calls Tryz.prog 194 #[.pointer (some ⟨q, 0, none⟩), .pointer (some ⟨p, 0, none⟩)] w (ILine w p m k g cap (s.go 6 3 (fun x => IntKind.u64.wrap (x + 1))) t d hd rv ev q 112 ipost { f with fw := keyS f.fa (IntKind.i64.wrap (s.old 3)) f.fb, fi := f.fn, ln := 5 } .none) := by
  have P0 := Lib.hid hp
  have B0 := Lib.hid h
  have F0 := Lib.hid (Fr.refl [m, g, q] w)
  have HL := Lib.hid hl
  clear hp h hl
  have HIN := Lib.hid hin
  clear hin
  have hc0 := lline_any B0.out
  rw [hl1] at hc0
  have HC0 := Lib.hid hc0
  clear hc0
  go_enter Tryz.func194, Tryz.ntmps194
  go_wp2_with fail
  (with_reducible refine HC0.out.mono ?_)
  rintro e wx ⟨rfl, rfl⟩
  clear HC0
  go_wp2_with fail
  (with_reducible refine (inumber_y P0.out HL.out B0.out rfl hk).mono ?_)
  rintro e W1 ⟨rfl, hp, hb, hf⟩
  have P1 := Lib.hid hp
  have B1 := Lib.hid hb
  have F1 := Lib.hid (F0.out.trans hf)
  clear hp hb hf
  clear P0 B0 F0
  have c3 : W1.cell? ⟨q, 3, none⟩ = some (.int .i64 f.fn) := B1.out.blk.at_ 3
  have c4 : W1.cell? ⟨q, 4, none⟩ = some (.int .i64 f.fi) := B1.out.blk.at_ 4
  have k4 := B1.out.blk.free 4
  have B2 := Lib.hid (B1.out.putg 4 (.int .i64 f.fn) (ipost { f with fw := keyS f.fa (IntKind.i64.wrap (s.old 3)) f.fb, fi := f.fn }) { f with fw := keyS f.fa (IntKind.i64.wrap (s.old 3)) f.fb, fi := f.fn } rfl)
  have P2 := Lib.hid (P1.out.lown B1.out ((Fr.refl [q] W1).setCell (p := ⟨q, 4, none⟩) (by simp) (.int .i64 f.fn)))
  have F2 := Lib.hid (F1.out.trans (((Fr.refl [q] W1).setCell (p := ⟨q, 4, none⟩) (by simp) (.int .i64 f.fn)).mono (by simp)))
  go_wp2_with fail
  clear c3 c4 k4
  clear P1 B1 F1
  generalize (W1.setCell ⟨q, 4, none⟩ (.int .i64 f.fn)) = W2 at *
  go_wp2_with fail
  (with_reducible refine (irise_n B2.out hi).mono ?_)
  rintro e W3 ⟨rfl, hb, hf⟩
  have P3 := Lib.hid (P2.out.lown B2.out hf)
  have B3 := Lib.hid hb
  have F3 := Lib.hid (F2.out.trans (hf.mono (by simp)))
  clear hb hf
  clear P2 B2 F2
  go_wp2
  go_ret
  exact ⟨rfl, P3.out, B3.out, F3.out⟩
set_option maxRecDepth 100000 in
set_option maxHeartbeats 4000000 in
theorem insr_3l (hin : CfgIn c) (hp : PE w p m k g cap s t d hd rv ev) (hl : LayHd hd c) (h : LB w q 112 (ipost f) f 0 0) (hl1 : f.ln = 3) (hc : s.old (rSlot c (parI f.fi)) ≤ f.fw) :
    Calls Tryz.prog 194 #[.pointer (some ⟨q, 0, none⟩), .pointer (some ⟨p, 0, none⟩)] w (ILine w p m k g cap (s.go 1 (rSlot c (parI f.fi)) id) t d hd rv ev q 112 ipost { f with fx := s.old (rSlot c (parI f.fi)), ln := 5 } .none) := by
  have P0 := Lib.hid hp
  have B0 := Lib.hid h
  have F0 := Lib.hid (Fr.refl [m, g, q] w)
  have HL := Lib.hid hl
  clear hp h hl
  have HIN := Lib.hid hin
  clear hin
  have hc0 := lline_any B0.out
  rw [hl1] at hc0
  have HC0 := Lib.hid hc0
  clear hc0
  go_enter Tryz.func194, Tryz.ntmps194
  go_wp2_with fail
  (with_reducible refine HC0.out.mono ?_)
  rintro e wx ⟨rfl, rfl⟩
  clear HC0
  have hd0 : decide (f.fw < s.old (rSlot c (parI f.fi))) = false := by simpa using hc
  have HC := Lib.hid hc
  clear hc
  go_wp2_with fail
  have P1 := Lib.hid (P0.out.drewN 1)
  have B1 := Lib.hid B0.out.drew
  have F1 := Lib.hid F0.out.drew
  clear P0 B0 F0
  have d20 : w.drew.cell? ⟨p, 20, none⟩ = some (.pointer (some ⟨m, 0, none⟩)) := P1.out.at20
  go_region_held3 (fun w' => w'.cell? ⟨p, 20, none⟩ = some (.pointer (some ⟨m, 0, none⟩))) ((first | exact v20 | exact b20 | exact a20 | exact d20 | go_keep))
    (first
      | (go_at_call 197
         (with_reducible refine (iparent_any B1.out).mono ?_)
         rintro e wx ⟨rfl, rfl⟩
         skip)
      | (go_at_call 177
         refine (hload_any (f := f) P1.out HL.out B1.out HIN.out _).mono ?_
         rintro e W2 ⟨rfl, hp, hb, hf⟩
         have P2 := Lib.hid hp
         have B2 := Lib.hid hb
         have F2 := Lib.hid (F1.out.trans hf)
         clear hp hb hf
         have b20 : W2.cell? ⟨p, 20, none⟩ = some (.pointer (some ⟨m, 0, none⟩)) := P2.out.at20
         have cs8 : W2.cell? ⟨q, 8, none⟩ = some (.int .u64 f.fx) := B2.out.blk.at_ 8
         have ks8 := B2.out.blk.free 8
         have B3 := Lib.hid (B2.out.putg 8 (.int .u64 (s.old (rSlot c (parI f.fi)))) (ipost { f with fx := s.old (rSlot c (parI f.fi)) }) { f with fx := s.old (rSlot c (parI f.fi)) } rfl)
         have P3 := Lib.hid (P2.out.lown B2.out ((Fr.refl [q] W2).setCell (p := ⟨q, 8, none⟩) (by simp) (.int .u64 (s.old (rSlot c (parI f.fi))))))
         have F3 := Lib.hid (F2.out.trans (((Fr.refl [q] W2).setCell (p := ⟨q, 8, none⟩) (by simp) (.int .u64 (s.old (rSlot c (parI f.fi))))).mono (by simp)))
         have v20 : (W2.setCell ⟨q, 8, none⟩ (.int .u64 (s.old (rSlot c (parI f.fi))))).cell? ⟨p, 20, none⟩ = some (.pointer (some ⟨m, 0, none⟩)) := P3.out.at20))
  clear d20 b20 v20 cs8 ks8 P1 B1 F1 P2 B2 F2
  have c8 : (W2.setCell ⟨q, 8, none⟩ (.int .u64 (s.old (rSlot c (parI f.fi))))).cell? ⟨q, 8, none⟩ = some (.int .u64 ((s.old (rSlot c (parI f.fi))))) := B3.out.blk.at_ 8
  have c7 : (W2.setCell ⟨q, 8, none⟩ (.int .u64 (s.old (rSlot c (parI f.fi))))).cell? ⟨q, 7, none⟩ = some (.int .u64 f.fw) := B3.out.blk.at_ 7
  go_wp2_with fail
  go_quiet (fail)
  have P4 := Lib.hid (P3.out.drewN nq)
  have B4 := Lib.hid (B3.out.drewN nq)
  have F4 := Lib.hid (F3.out.drewN nq)
  clear c8 c7
  generalize (W2.setCell ⟨q, 8, none⟩ (.int .u64 (s.old (rSlot c (parI f.fi))))).drewN nq = W4 at *
  clear P3 B3 F3
  go_wp2_with fail
  (with_reducible refine (lnext_any B4.out 5).mono ?_)
  rintro e W5 ⟨rfl, hb, hf⟩
  have P5 := Lib.hid (P4.out.lown B4.out hf)
  have B5 := Lib.hid hb
  have F5 := Lib.hid (F4.out.trans (hf.mono (by simp)))
  clear hb hf
  clear P4 B4 F4
  go_wp2
  go_ret
  exact ⟨rfl, P5.out, B5.out, F5.out⟩
set_option maxRecDepth 100000 in
set_option maxHeartbeats 4000000 in
theorem insr_3 (hin : CfgIn c) (hp : PE w p m k g cap s t d hd rv ev) (hl : LayHd hd c) (h : LB w q 112 (ipost f) f 0 0) (hl1 : f.ln = 3) (hc : ¬ s.old (rSlot c (parI f.fi)) ≤ f.fw) :
    Calls Tryz.prog 194 #[.pointer (some ⟨q, 0, none⟩), .pointer (some ⟨p, 0, none⟩)] w (ILine w p m k g cap (s.go 1 (rSlot c (parI f.fi)) id) t d hd rv ev q 112 ipost { f with fx := s.old (rSlot c (parI f.fi)), ln := 4 } .none) := by
  have P0 := Lib.hid hp
  have B0 := Lib.hid h
  have F0 := Lib.hid (Fr.refl [m, g, q] w)
  have HL := Lib.hid hl
  clear hp h hl
  have HIN := Lib.hid hin
  clear hin
  have hc0 := lline_any B0.out
  rw [hl1] at hc0
  have HC0 := Lib.hid hc0
  clear hc0
  go_enter Tryz.func194, Tryz.ntmps194
  go_wp2_with fail
  (with_reducible refine HC0.out.mono ?_)
  rintro e wx ⟨rfl, rfl⟩
  clear HC0
  have hd0 : decide (f.fw < s.old (rSlot c (parI f.fi))) = true := by simpa using hc
  have HC := Lib.hid hc
  clear hc
  go_wp2_with fail
  have P1 := Lib.hid (P0.out.drewN 1)
  have B1 := Lib.hid B0.out.drew
  have F1 := Lib.hid F0.out.drew
  clear P0 B0 F0
  have d20 : w.drew.cell? ⟨p, 20, none⟩ = some (.pointer (some ⟨m, 0, none⟩)) := P1.out.at20
  go_region_held3 (fun w' => w'.cell? ⟨p, 20, none⟩ = some (.pointer (some ⟨m, 0, none⟩))) ((first | exact v20 | exact b20 | exact a20 | exact d20 | go_keep))
    (first
      | (go_at_call 197
         (with_reducible refine (iparent_any B1.out).mono ?_)
         rintro e wx ⟨rfl, rfl⟩
         skip)
      | (go_at_call 177
         refine (hload_any (f := f) P1.out HL.out B1.out HIN.out _).mono ?_
         rintro e W2 ⟨rfl, hp, hb, hf⟩
         have P2 := Lib.hid hp
         have B2 := Lib.hid hb
         have F2 := Lib.hid (F1.out.trans hf)
         clear hp hb hf
         have b20 : W2.cell? ⟨p, 20, none⟩ = some (.pointer (some ⟨m, 0, none⟩)) := P2.out.at20
         have cs8 : W2.cell? ⟨q, 8, none⟩ = some (.int .u64 f.fx) := B2.out.blk.at_ 8
         have ks8 := B2.out.blk.free 8
         have B3 := Lib.hid (B2.out.putg 8 (.int .u64 (s.old (rSlot c (parI f.fi)))) (ipost { f with fx := s.old (rSlot c (parI f.fi)) }) { f with fx := s.old (rSlot c (parI f.fi)) } rfl)
         have P3 := Lib.hid (P2.out.lown B2.out ((Fr.refl [q] W2).setCell (p := ⟨q, 8, none⟩) (by simp) (.int .u64 (s.old (rSlot c (parI f.fi))))))
         have F3 := Lib.hid (F2.out.trans (((Fr.refl [q] W2).setCell (p := ⟨q, 8, none⟩) (by simp) (.int .u64 (s.old (rSlot c (parI f.fi))))).mono (by simp)))
         have v20 : (W2.setCell ⟨q, 8, none⟩ (.int .u64 (s.old (rSlot c (parI f.fi))))).cell? ⟨p, 20, none⟩ = some (.pointer (some ⟨m, 0, none⟩)) := P3.out.at20))
  clear d20 b20 v20 cs8 ks8 P1 B1 F1 P2 B2 F2
  have c8 : (W2.setCell ⟨q, 8, none⟩ (.int .u64 (s.old (rSlot c (parI f.fi))))).cell? ⟨q, 8, none⟩ = some (.int .u64 ((s.old (rSlot c (parI f.fi))))) := B3.out.blk.at_ 8
  have c7 : (W2.setCell ⟨q, 8, none⟩ (.int .u64 (s.old (rSlot c (parI f.fi))))).cell? ⟨q, 7, none⟩ = some (.int .u64 f.fw) := B3.out.blk.at_ 7
  go_wp2_with fail
  go_quiet (fail)
  have P4 := Lib.hid (P3.out.drewN nq)
  have B4 := Lib.hid (B3.out.drewN nq)
  have F4 := Lib.hid (F3.out.drewN nq)
  clear c8 c7
  generalize (W2.setCell ⟨q, 8, none⟩ (.int .u64 (s.old (rSlot c (parI f.fi))))).drewN nq = W4 at *
  clear P3 B3 F3
  go_wp2_with fail
  (with_reducible refine (lnext_any B4.out 4).mono ?_)
  rintro e W5 ⟨rfl, hb, hf⟩
  have P5 := Lib.hid (P4.out.lown B4.out hf)
  have B5 := Lib.hid hb
  have F5 := Lib.hid (F4.out.trans (hf.mono (by simp)))
  clear hb hf
  clear P4 B4 F4
  go_wp2
  go_ret
  exact ⟨rfl, P5.out, B5.out, F5.out⟩
set_option maxRecDepth 100000 in
set_option maxHeartbeats 4000000 in
theorem insr_4y (hin : CfgIn c) (hp : PE w p m k g cap s t d hd rv ev) (hl : LayHd hd c) (h : LB w q 112 (ipost f) f 0 0) (hl1 : f.ln = 4) (hi : 0 < parI f.fi) :
    Calls Tryz.prog 194 #[.pointer (some ⟨q, 0, none⟩), .pointer (some ⟨p, 0, none⟩)] w (ILine w p m k g cap (s.go 2 (rSlot c f.fi) (fun _ => f.fx)) t d hd rv ev q 112 ipost { f with fi := parI f.fi, ln := 3 } .none) := by
  have P0 := Lib.hid hp
  have B0 := Lib.hid h
  have F0 := Lib.hid (Fr.refl [m, g, q] w)
  have HL := Lib.hid hl
  clear hp h hl
  have HIN := Lib.hid hin
  clear hin
  have hc0 := lline_any B0.out
  rw [hl1] at hc0
  have HC0 := Lib.hid hc0
  clear hc0
  go_enter Tryz.func194, Tryz.ntmps194
  go_wp2_with fail
  (with_reducible refine HC0.out.mono ?_)
  rintro e wx ⟨rfl, rfl⟩
  clear HC0
  have HI := Lib.hid hi
  clear hi
  go_wp2_with fail
  have P1 := Lib.hid (P0.out.drewN 1)
  have B1 := Lib.hid B0.out.drew
  have F1 := Lib.hid F0.out.drew
  clear P0 B0 F0
  have d20 : w.drew.cell? ⟨p, 20, none⟩ = some (.pointer (some ⟨m, 0, none⟩)) := P1.out.at20
  have d8 : w.drew.cell? ⟨q, 8, none⟩ = some (.int .u64 f.fx) := B1.out.blk.at_ 8
  go_region_held3 (fun w' => w'.cell? ⟨p, 20, none⟩ = some (.pointer (some ⟨m, 0, none⟩)) ∧ w'.cell? ⟨q, 8, none⟩ = some (.int .u64 f.fx)) ((first | exact ⟨a20, a8⟩ | exact ⟨d20, d8⟩ | go_keep))
    ((go_at_call 185
      refine (hfill_any (f := f) P1.out HL.out B1.out HIN.out _).mono ?_
      rintro e W2 ⟨rfl, hp, hb, hf⟩
      have P2 := Lib.hid hp
      have B2 := Lib.hid hb
      have F2 := Lib.hid (F1.out.trans hf)
      clear hp hb hf
      have a20 : W2.cell? ⟨p, 20, none⟩ = some (.pointer (some ⟨m, 0, none⟩)) := P2.out.at20
      have a8 : W2.cell? ⟨q, 8, none⟩ = some (.int .u64 f.fx) := B2.out.blk.at_ 8))
  clear d20 d8 a20 a8 P1 B1 F1
  go_wp2_with fail
  (with_reducible refine (iparent_any B2.out).mono ?_)
  rintro e wx ⟨rfl, rfl⟩
  have c4 : W2.cell? ⟨q, 4, none⟩ = some (.int .i64 f.fi) := B2.out.blk.at_ 4
  have k4 := B2.out.blk.free 4
  have B3 := Lib.hid (B2.out.putg 4 (.int .i64 (parI f.fi)) (ipost { f with fi := parI f.fi }) { f with fi := parI f.fi } rfl)
  have P3 := Lib.hid (P2.out.lown B2.out ((Fr.refl [q] W2).setCell (p := ⟨q, 4, none⟩) (by simp) (.int .i64 (parI f.fi))))
  have F3 := Lib.hid (F2.out.trans (((Fr.refl [q] W2).setCell (p := ⟨q, 4, none⟩) (by simp) (.int .i64 (parI f.fi))).mono (by simp)))
  go_wp2_with fail
  clear c4 k4
  clear P2 B2 F2
  generalize (W2.setCell ⟨q, 4, none⟩ (.int .i64 (parI f.fi))) = W3 at *
  go_wp2_with fail
  (with_reducible refine (irise_y B3.out HI.out).mono ?_)
  rintro e W4 ⟨rfl, hb, hf⟩
  have P4 := Lib.hid (P3.out.lown B3.out hf)
  have B4 := Lib.hid hb
  have F4 := Lib.hid (F3.out.trans (hf.mono (by simp)))
  clear hb hf
  clear P3 B3 F3
  go_wp2
  go_ret
  exact ⟨rfl, P4.out, B4.out, F4.out⟩
set_option maxRecDepth 100000 in
set_option maxHeartbeats 4000000 in
theorem insr_4z (hin : CfgIn c) (hp : PE w p m k g cap s t d hd rv ev) (hl : LayHd hd c) (h : LB w q 112 (ipost f) f 0 0) (hl1 : f.ln = 4) (hi : parI f.fi ≤ 0) :
    Calls Tryz.prog 194 #[.pointer (some ⟨q, 0, none⟩), .pointer (some ⟨p, 0, none⟩)] w (ILine w p m k g cap (s.go 2 (rSlot c f.fi) (fun _ => f.fx)) t d hd rv ev q 112 ipost { f with fi := parI f.fi, ln := 5 } .none) := by
  have P0 := Lib.hid hp
  have B0 := Lib.hid h
  have F0 := Lib.hid (Fr.refl [m, g, q] w)
  have HL := Lib.hid hl
  clear hp h hl
  have HIN := Lib.hid hin
  clear hin
  have hc0 := lline_any B0.out
  rw [hl1] at hc0
  have HC0 := Lib.hid hc0
  clear hc0
  go_enter Tryz.func194, Tryz.ntmps194
  go_wp2_with fail
  (with_reducible refine HC0.out.mono ?_)
  rintro e wx ⟨rfl, rfl⟩
  clear HC0
  have HI := Lib.hid hi
  clear hi
  go_wp2_with fail
  have P1 := Lib.hid (P0.out.drewN 1)
  have B1 := Lib.hid B0.out.drew
  have F1 := Lib.hid F0.out.drew
  clear P0 B0 F0
  have d20 : w.drew.cell? ⟨p, 20, none⟩ = some (.pointer (some ⟨m, 0, none⟩)) := P1.out.at20
  have d8 : w.drew.cell? ⟨q, 8, none⟩ = some (.int .u64 f.fx) := B1.out.blk.at_ 8
  go_region_held3 (fun w' => w'.cell? ⟨p, 20, none⟩ = some (.pointer (some ⟨m, 0, none⟩)) ∧ w'.cell? ⟨q, 8, none⟩ = some (.int .u64 f.fx)) ((first | exact ⟨a20, a8⟩ | exact ⟨d20, d8⟩ | go_keep))
    ((go_at_call 185
      refine (hfill_any (f := f) P1.out HL.out B1.out HIN.out _).mono ?_
      rintro e W2 ⟨rfl, hp, hb, hf⟩
      have P2 := Lib.hid hp
      have B2 := Lib.hid hb
      have F2 := Lib.hid (F1.out.trans hf)
      clear hp hb hf
      have a20 : W2.cell? ⟨p, 20, none⟩ = some (.pointer (some ⟨m, 0, none⟩)) := P2.out.at20
      have a8 : W2.cell? ⟨q, 8, none⟩ = some (.int .u64 f.fx) := B2.out.blk.at_ 8))
  clear d20 d8 a20 a8 P1 B1 F1
  go_wp2_with fail
  (with_reducible refine (iparent_any B2.out).mono ?_)
  rintro e wx ⟨rfl, rfl⟩
  have c4 : W2.cell? ⟨q, 4, none⟩ = some (.int .i64 f.fi) := B2.out.blk.at_ 4
  have k4 := B2.out.blk.free 4
  have B3 := Lib.hid (B2.out.putg 4 (.int .i64 (parI f.fi)) (ipost { f with fi := parI f.fi }) { f with fi := parI f.fi } rfl)
  have P3 := Lib.hid (P2.out.lown B2.out ((Fr.refl [q] W2).setCell (p := ⟨q, 4, none⟩) (by simp) (.int .i64 (parI f.fi))))
  have F3 := Lib.hid (F2.out.trans (((Fr.refl [q] W2).setCell (p := ⟨q, 4, none⟩) (by simp) (.int .i64 (parI f.fi))).mono (by simp)))
  go_wp2_with fail
  clear c4 k4
  clear P2 B2 F2
  generalize (W2.setCell ⟨q, 4, none⟩ (.int .i64 (parI f.fi))) = W3 at *
  go_wp2_with fail
  (with_reducible refine (irise_n B3.out HI.out).mono ?_)
  rintro e W4 ⟨rfl, hb, hf⟩
  have P4 := Lib.hid (P3.out.lown B3.out hf)
  have B4 := Lib.hid hb
  have F4 := Lib.hid (F3.out.trans (hf.mono (by simp)))
  clear hb hf
  clear P3 B3 F3
  go_wp2
  go_ret
  exact ⟨rfl, P4.out, B4.out, F4.out⟩
set_option maxRecDepth 100000 in
set_option maxHeartbeats 4000000 in
theorem insr_5 (hin : CfgIn c) (hp : PE w p m k g cap s t d hd rv ev) (hl : LayHd hd c) (h : LB w q 112 (ipost f) f 0 0) (hl1 : f.ln = 5)  :
    Calls Tryz.prog 194 #[.pointer (some ⟨q, 0, none⟩), .pointer (some ⟨p, 0, none⟩)] w (ILine w p m k g cap (s.go 2 (rSlot c f.fi) (fun _ => f.fw)) t d hd rv ev q 112 ipost { f with ln := 6 } .none) := by
  have P0 := Lib.hid hp
  have B0 := Lib.hid h
  have F0 := Lib.hid (Fr.refl [m, g, q] w)
  have HL := Lib.hid hl
  clear hp h hl
  have HIN := Lib.hid hin
  clear hin
  have hc0 := lline_any B0.out
  rw [hl1] at hc0
  have HC0 := Lib.hid hc0
  clear hc0
  go_enter Tryz.func194, Tryz.ntmps194
  go_wp2_with fail
  (with_reducible refine HC0.out.mono ?_)
  rintro e wx ⟨rfl, rfl⟩
  clear HC0
  go_wp2_with fail
  have P1 := Lib.hid (P0.out.drewN 1)
  have B1 := Lib.hid B0.out.drew
  have F1 := Lib.hid F0.out.drew
  clear P0 B0 F0
  have d20 : w.drew.cell? ⟨p, 20, none⟩ = some (.pointer (some ⟨m, 0, none⟩)) := P1.out.at20
  have d7 : w.drew.cell? ⟨q, 7, none⟩ = some (.int .u64 f.fw) := B1.out.blk.at_ 7
  go_region_held3 (fun w' => w'.cell? ⟨p, 20, none⟩ = some (.pointer (some ⟨m, 0, none⟩)) ∧ w'.cell? ⟨q, 7, none⟩ = some (.int .u64 f.fw)) ((first | exact ⟨a20, a7⟩ | exact ⟨d20, d7⟩ | go_keep))
    ((go_at_call 185
      refine (hfill_any (f := f) P1.out HL.out B1.out HIN.out _).mono ?_
      rintro e W2 ⟨rfl, hp, hb, hf⟩
      have P2 := Lib.hid hp
      have B2 := Lib.hid hb
      have F2 := Lib.hid (F1.out.trans hf)
      clear hp hb hf
      have a20 : W2.cell? ⟨p, 20, none⟩ = some (.pointer (some ⟨m, 0, none⟩)) := P2.out.at20
      have a7 : W2.cell? ⟨q, 7, none⟩ = some (.int .u64 f.fw) := B2.out.blk.at_ 7))
  clear d20 d7 a20 a7 P1 B1 F1
  go_wp2_with fail
  (with_reducible refine (lnext_any B2.out 6).mono ?_)
  rintro e W3 ⟨rfl, hb, hf⟩
  have P3 := Lib.hid (P2.out.lown B2.out hf)
  have B3 := Lib.hid hb
  have F3 := Lib.hid (F2.out.trans (hf.mono (by simp)))
  clear hb hf
  clear P2 B2 F2
  go_wp2
  go_ret
  exact ⟨rfl, P3.out, B3.out, F3.out⟩
set_option maxRecDepth 100000 in
set_option maxHeartbeats 4000000 in
theorem insr_6 (hin : CfgIn c) (hp : PE w p m k g cap s t d hd rv ev) (hl : LayHd hd c) (h : LB w q 112 (ipost f) f 0 0) (hl1 : f.ln = 6)  :
    Calls Tryz.prog 194 #[.pointer (some ⟨q, 0, none⟩), .pointer (some ⟨p, 0, none⟩)] w (ILine w p m k g cap (s.go 2 2 (fun _ => IntKind.u64.wrap (wrap64 (f.fn + 1)))) t d hd rv ev q 112 ipost f ⟨true, 0, 0⟩) := by
  have P0 := Lib.hid hp
  have B0 := Lib.hid h
  have F0 := Lib.hid (Fr.refl [m, g, q] w)
  have HL := Lib.hid hl
  clear hp h hl
  have HIN := Lib.hid hin
  clear hin
  have hc0 := lline_any B0.out
  rw [hl1] at hc0
  have HC0 := Lib.hid hc0
  clear hc0
  go_enter Tryz.func194, Tryz.ntmps194
  go_wp2_with fail
  (with_reducible refine HC0.out.mono ?_)
  rintro e wx ⟨rfl, rfl⟩
  clear HC0
  go_wp2_with fail
  (with_reducible refine (hstoreSize_any (f := f) P0.out HL.out B0.out 1).mono ?_)
  rintro e W1 ⟨rfl, hp, hb, hf⟩
  have P1 := Lib.hid hp
  have B1 := Lib.hid hb
  have F1 := Lib.hid (F0.out.trans hf)
  clear hp hb hf
  clear P0 B0 F0
  go_wp2_with fail
  (with_reducible refine (lend_any B1.out 0 0).mono ?_)
  rintro e W2 ⟨rfl, hb, hf⟩
  have P2 := Lib.hid (P1.out.lown B1.out hf)
  have B2 := Lib.hid hb
  have F2 := Lib.hid (F1.out.trans (hf.mono (by simp)))
  clear hb hf
  clear P1 B1 F1
  go_wp2
  go_ret
  exact ⟨rfl, P2.out, B2.out, F2.out⟩
set_option maxRecDepth 100000 in
/-- One that is done. -/
theorem inserter_over {ty : TypeId} {post : List Value} {cd vl : Int} (h : LB w q ty post { f with ln := 0 } cd vl) (v : Value) :
    Calls Tryz.prog 194 #[.pointer (some ⟨q, 0, none⟩), v] w fun e w' => e = .returned (.bool true) ∧ w = w' := by
  have HC := Lib.hid (lline_any h)
  clear h
  go_enter Tryz.func194, Tryz.ntmps194
  go_wp2_with fail
  (with_reducible refine HC.out.mono ?_)
  rintro e wx ⟨rfl, rfl⟩
  go_wp2
  go_ret
  exact ⟨rfl, rfl⟩

end
end Go.Proofs.YtanbjdlaolgepaaGreat
