/-
  Package injector: the methods of what its machines share. (Written by wip/gen_inj.py.)
-/
import Derived.Test.YtanbjdlaolgepaaGreatMgBF
import Derived.Test.YtanbjdlaolgepaaGreatMgBD
import Derived.Test.YtanbjdlaolgepaaGreatMgAT
namespace Go.Proofs.YtanbjdlaolgepaaGreat
open Go Go.RowKit Go.Shelf
set_option linter.unusedSimpArgs false
set_option linter.unusedVariables false


/-- The cells behind the lines: the size, the open place. -/
abbrev hpost (rest : List Value) (f : Fra) : List Value := .int .i64 f.fn :: .int .i64 f.fi :: rest
section
variable {w : World} {p m k g cap : Nat} {s : St} {t d : Int} {hd : List Value} {rv ev : Value} {q : Nat} {f : Fra} {c : Cfg} {ty : TypeId} {rest : List Value}
theorem LB.putg {post : List Value} (h : LB w q ty post f 0 0) (j : Nat) (u : Value) (post' : List Value) (f' : Fra) (hf : lncells f' 0 0 ++ post' = (lncells f 0 0 ++ post).set j u) : LB (w.setCell ⟨q, j, none⟩ u) q ty post' f' 0 0 := by
  refine ⟨?_, h.t1, h.t2, h.t3, h.t4⟩
  have hb := h.blk.put j u
  rw [List.setIfInBounds_toArray, ← hf] at hb
  exact hb

set_option maxRecDepth 100000 in
set_option maxHeartbeats 4000000 in
theorem hloadSize_x (hp : PE w p m k g cap s t d hd rv ev) (hl : LayHd hd c) (h : LB w q ty (hpost rest f) f 0 0) :
    Calls Tryz.prog 174 #[.pointer (some ⟨q, 0, none⟩), .pointer (some ⟨p, 0, none⟩)] w fun e w' => e = .returned (.tuple #[]) ∧ PE w' p m k g cap (s.go 1 2 id) t d hd rv ev ∧ LB w' q ty (hpost rest { f with fn := IntKind.i64.wrap (s.old 2) }) { f with fn := IntKind.i64.wrap (s.old 2) } 0 0 ∧ Fr [m, g, q] w w' := by
  have P0 := Lib.hid hp
  have B0 := Lib.hid h
  have F0 := Lib.hid (Fr.refl [m, g, q] w)
  have HL := Lib.hid hl
  clear hp h hl
  go_enter Tryz.func174, Tryz.ntmps174
  go_wp2_with fail
  have P1 := Lib.hid (P0.out.drewN 1)
  have B1 := Lib.hid B0.out.drew
  have F1 := Lib.hid F0.out.drew
  clear P0 B0 F0
  obtain ⟨dl0, dl1, dl2, dl3, dl4, dl5, dl6, dl7, dl8⟩ := P1.out.layS HL.out
  change w.drew.cell? _ = _ at dl0 dl1 dl2 dl3 dl4 dl5 dl6 dl7 dl8
  have d20 : w.drew.cell? ⟨p, 20, none⟩ = some (.pointer (some ⟨m, 0, none⟩)) := P1.out.at20
  go_region_held3 (fun w' => w'.cell? ⟨p, 11, none⟩ = some (.int .i64 4) ∧ w'.cell? ⟨p, 12, none⟩ = some (.int .i64 (4 + c.he)) ∧ w'.cell? ⟨p, 13, none⟩ = some (.int .i64 (4 + c.he + c.cl)) ∧ w'.cell? ⟨p, 14, none⟩ = some (.int .i64 (4 + c.he + c.cl + c.wo)) ∧ w'.cell? ⟨p, 15, none⟩ = some (.int .i64 (rDeques c)) ∧ w'.cell? ⟨p, 16, none⟩ = some (.int .i64 (rDeques c + rAll c)) ∧ w'.cell? ⟨p, 17, none⟩ = some (.int .i64 (rCells c)) ∧ w'.cell? ⟨p, 18, none⟩ = some (.int .i64 c.le) ∧ w'.cell? ⟨p, 19, none⟩ = some (.int .i64 c.de) ∧ w'.cell? ⟨p, 20, none⟩ = some (.pointer (some ⟨m, 0, none⟩))) ((first | exact ⟨vl0, vl1, vl2, vl3, vl4, vl5, vl6, vl7, vl8, v20⟩ | exact ⟨bl0, bl1, bl2, bl3, bl4, bl5, bl6, bl7, bl8, b20⟩ | exact ⟨al0, al1, al2, al3, al4, al5, al6, al7, al8, a20⟩ | exact ⟨dl0, dl1, dl2, dl3, dl4, dl5, dl6, dl7, dl8, d20⟩ | go_keep))
    (first
      | (go_at_call 187
         refine (lsize_any (c := c)).mono ?_
         rintro e W2 ⟨rfl, hb⟩
         have P2 := Lib.hid (P1.out.below hb)
         have B2 := Lib.hid (B1.out.below hb)
         have F2 := Lib.hid (F1.out.trans (Fr.old hb))
         clear hb
         obtain ⟨al0, al1, al2, al3, al4, al5, al6, al7, al8⟩ := P2.out.layS HL.out
         change W2.cell? _ = _ at al0 al1 al2 al3 al4 al5 al6 al7 al8
         have a20 : W2.cell? ⟨p, 20, none⟩ = some (.pointer (some ⟨m, 0, none⟩)) := P2.out.at20)
      | (go_at_call 186
         refine (load_any P2.out.mem _).mono ?_
         rintro e W3 ⟨rfl, hm, hf⟩
         have P3 := Lib.hid (P2.out.acc hm hf)
         have B3 := Lib.hid (B2.out.acc P2.out hf)
         have F3 := Lib.hid (F2.out.trans (hf.mono (by simp)))
         clear hm hf
         obtain ⟨bl0, bl1, bl2, bl3, bl4, bl5, bl6, bl7, bl8⟩ := P3.out.layS HL.out
         change W3.cell? _ = _ at bl0 bl1 bl2 bl3 bl4 bl5 bl6 bl7 bl8
         have b20 : W3.cell? ⟨p, 20, none⟩ = some (.pointer (some ⟨m, 0, none⟩)) := P3.out.at20
         have cs3 : W3.cell? ⟨q, 3, none⟩ = some (.int .i64 f.fn) := B3.out.blk.at_ 3
         have ks3 := B3.out.blk.free 3
         have B4 := Lib.hid (B3.out.putg 3 (.int .i64 (IntKind.i64.wrap (s.old 2))) (hpost rest { f with fn := IntKind.i64.wrap (s.old 2) }) { f with fn := IntKind.i64.wrap (s.old 2) } rfl)
         have P4 := Lib.hid (P3.out.lown B3.out ((Fr.refl [q] W3).setCell (p := ⟨q, 3, none⟩) (by simp) (.int .i64 (IntKind.i64.wrap (s.old 2)))))
         have F4 := Lib.hid (F3.out.trans (((Fr.refl [q] W3).setCell (p := ⟨q, 3, none⟩) (by simp) (.int .i64 (IntKind.i64.wrap (s.old 2)))).mono (by simp)))
         obtain ⟨vl0, vl1, vl2, vl3, vl4, vl5, vl6, vl7, vl8⟩ := P4.out.layS HL.out
         change (W3.setCell ⟨q, 3, none⟩ (.int .i64 (IntKind.i64.wrap (s.old 2)))).cell? _ = _ at vl0 vl1 vl2 vl3 vl4 vl5 vl6 vl7 vl8
         have v20 : (W3.setCell ⟨q, 3, none⟩ (.int .i64 (IntKind.i64.wrap (s.old 2)))).cell? ⟨p, 20, none⟩ = some (.pointer (some ⟨m, 0, none⟩)) := P4.out.at20))
  clear dl0 dl1 dl2 dl3 dl4 dl5 dl6 dl7 dl8 d20 al0 al1 al2 al3 al4 al5 al6 al7 al8 a20 bl0 bl1 bl2 bl3 bl4 bl5 bl6 bl7 bl8 b20 vl0 vl1 vl2 vl3 vl4 vl5 vl6 vl7 vl8 v20 cs3 ks3 P1 B1 F1 P2 B2 F2 P3 B3 F3
  go_end0
  exact ⟨rfl, P4.out, B4.out, F4.out⟩
theorem hloadSize_any (hp : PE w p m k g cap s t d hd rv ev) (hl : LayHd hd c) (h : LB w q ty (hpost rest f) f 0 0) :
    Calls Tryz.prog 174 #[.pointer (some ⟨q, 0, none⟩), .pointer (some ⟨p, 0, none⟩)] w fun e w' => e = .returned (.tuple #[]) ∧ PE w' p m k g cap (s.go 1 2 id) t d hd rv ev ∧ LB w' q ty (hpost rest { f with fn := wrap64 (s.old 2) }) { f with fn := wrap64 (s.old 2) } 0 0 ∧ Fr [m, g, q] w w' := by
  have h := hloadSize_x hp hl h
  rw [wrap_two] at h
  exact h

set_option maxRecDepth 100000 in
set_option maxHeartbeats 4000000 in
theorem hload_any (hp : PE w p m k g cap s t d hd rv ev) (hl : LayHd hd c) (h : LB w q ty (hpost rest f) f 0 0) (hin : CfgIn c) (j : Int) :
    Calls Tryz.prog 177 #[.pointer (some ⟨q, 0, none⟩), .pointer (some ⟨p, 0, none⟩), .int .i64 j] w fun e w' => e = .returned (.int .u64 (s.old (rSlot c j))) ∧ PE w' p m k g cap (s.go 1 (rSlot c j) id) t d hd rv ev ∧ LB w' q ty (hpost rest f) f 0 0 ∧ Fr [m, g, q] w w' := by
  have P0 := Lib.hid hp
  have B0 := Lib.hid h
  have F0 := Lib.hid (Fr.refl [m, g, q] w)
  have HL := Lib.hid hl
  clear hp h hl
  go_enter Tryz.func177, Tryz.ntmps177
  go_wp2_with fail
  have P1 := Lib.hid (P0.out.drewN 1)
  have B1 := Lib.hid B0.out.drew
  have F1 := Lib.hid F0.out.drew
  clear P0 B0 F0
  obtain ⟨dl0, dl1, dl2, dl3, dl4, dl5, dl6, dl7, dl8⟩ := P1.out.layS HL.out
  change w.drew.cell? _ = _ at dl0 dl1 dl2 dl3 dl4 dl5 dl6 dl7 dl8
  have d20 : w.drew.cell? ⟨p, 20, none⟩ = some (.pointer (some ⟨m, 0, none⟩)) := P1.out.at20
  go_region_held3 (fun w' => w'.cell? ⟨p, 11, none⟩ = some (.int .i64 4) ∧ w'.cell? ⟨p, 12, none⟩ = some (.int .i64 (4 + c.he)) ∧ w'.cell? ⟨p, 13, none⟩ = some (.int .i64 (4 + c.he + c.cl)) ∧ w'.cell? ⟨p, 14, none⟩ = some (.int .i64 (4 + c.he + c.cl + c.wo)) ∧ w'.cell? ⟨p, 15, none⟩ = some (.int .i64 (rDeques c)) ∧ w'.cell? ⟨p, 16, none⟩ = some (.int .i64 (rDeques c + rAll c)) ∧ w'.cell? ⟨p, 17, none⟩ = some (.int .i64 (rCells c)) ∧ w'.cell? ⟨p, 18, none⟩ = some (.int .i64 c.le) ∧ w'.cell? ⟨p, 19, none⟩ = some (.int .i64 c.de) ∧ w'.cell? ⟨p, 20, none⟩ = some (.pointer (some ⟨m, 0, none⟩))) ((first | exact ⟨bl0, bl1, bl2, bl3, bl4, bl5, bl6, bl7, bl8, b20⟩ | exact ⟨al0, al1, al2, al3, al4, al5, al6, al7, al8, a20⟩ | exact ⟨dl0, dl1, dl2, dl3, dl4, dl5, dl6, dl7, dl8, d20⟩ | go_keep))
    (first
      | (go_at_call 188
         refine (lslot_any (c := c) hin j).mono ?_
         rintro e W2 ⟨rfl, hb⟩
         have P2 := Lib.hid (P1.out.below hb)
         have B2 := Lib.hid (B1.out.below hb)
         have F2 := Lib.hid (F1.out.trans (Fr.old hb))
         clear hb
         obtain ⟨al0, al1, al2, al3, al4, al5, al6, al7, al8⟩ := P2.out.layS HL.out
         change W2.cell? _ = _ at al0 al1 al2 al3 al4 al5 al6 al7 al8
         have a20 : W2.cell? ⟨p, 20, none⟩ = some (.pointer (some ⟨m, 0, none⟩)) := P2.out.at20)
      | (go_at_call 186
         refine (load_any P2.out.mem _).mono ?_
         rintro e W3 ⟨rfl, hm, hf⟩
         have P3 := Lib.hid (P2.out.acc hm hf)
         have B3 := Lib.hid (B2.out.acc P2.out hf)
         have F3 := Lib.hid (F2.out.trans (hf.mono (by simp)))
         clear hm hf
         obtain ⟨bl0, bl1, bl2, bl3, bl4, bl5, bl6, bl7, bl8⟩ := P3.out.layS HL.out
         change W3.cell? _ = _ at bl0 bl1 bl2 bl3 bl4 bl5 bl6 bl7 bl8
         have b20 : W3.cell? ⟨p, 20, none⟩ = some (.pointer (some ⟨m, 0, none⟩)) := P3.out.at20))
  clear dl0 dl1 dl2 dl3 dl4 dl5 dl6 dl7 dl8 d20 al0 al1 al2 al3 al4 al5 al6 al7 al8 a20 bl0 bl1 bl2 bl3 bl4 bl5 bl6 bl7 bl8 b20 P1 B1 F1 P2 B2 F2
  go_wp2
  go_ret
  exact ⟨rfl, P3.out, B3.out, F3.out⟩
set_option maxRecDepth 100000 in
set_option maxHeartbeats 4000000 in
theorem hfill_any (hp : PE w p m k g cap s t d hd rv ev) (hl : LayHd hd c) (h : LB w q ty (hpost rest f) f 0 0) (hin : CfgIn c) (x : Int) :
    Calls Tryz.prog 185 #[.pointer (some ⟨q, 0, none⟩), .pointer (some ⟨p, 0, none⟩), .int .u64 x] w fun e w' => e = .returned (.tuple #[]) ∧ PE w' p m k g cap (s.go 2 (rSlot c f.fi) (fun _ => x)) t d hd rv ev ∧ LB w' q ty (hpost rest f) f 0 0 ∧ Fr [m, g, q] w w' := by
  have P0 := Lib.hid hp
  have B0 := Lib.hid h
  have F0 := Lib.hid (Fr.refl [m, g, q] w)
  have HL := Lib.hid hl
  clear hp h hl
  go_enter Tryz.func185, Tryz.ntmps185
  go_wp2_with fail
  have P1 := Lib.hid (P0.out.drewN 1)
  have B1 := Lib.hid B0.out.drew
  have F1 := Lib.hid F0.out.drew
  clear P0 B0 F0
  obtain ⟨dl0, dl1, dl2, dl3, dl4, dl5, dl6, dl7, dl8⟩ := P1.out.layS HL.out
  change w.drew.cell? _ = _ at dl0 dl1 dl2 dl3 dl4 dl5 dl6 dl7 dl8
  have d20 : w.drew.cell? ⟨p, 20, none⟩ = some (.pointer (some ⟨m, 0, none⟩)) := P1.out.at20
  have d4 : w.drew.cell? ⟨q, 4, none⟩ = some (.int .i64 f.fi) := B1.out.blk.at_ 4
  go_region_held3 (fun w' => w'.cell? ⟨p, 11, none⟩ = some (.int .i64 4) ∧ w'.cell? ⟨p, 12, none⟩ = some (.int .i64 (4 + c.he)) ∧ w'.cell? ⟨p, 13, none⟩ = some (.int .i64 (4 + c.he + c.cl)) ∧ w'.cell? ⟨p, 14, none⟩ = some (.int .i64 (4 + c.he + c.cl + c.wo)) ∧ w'.cell? ⟨p, 15, none⟩ = some (.int .i64 (rDeques c)) ∧ w'.cell? ⟨p, 16, none⟩ = some (.int .i64 (rDeques c + rAll c)) ∧ w'.cell? ⟨p, 17, none⟩ = some (.int .i64 (rCells c)) ∧ w'.cell? ⟨p, 18, none⟩ = some (.int .i64 c.le) ∧ w'.cell? ⟨p, 19, none⟩ = some (.int .i64 c.de) ∧ w'.cell? ⟨p, 20, none⟩ = some (.pointer (some ⟨m, 0, none⟩)) ∧ w'.cell? ⟨q, 4, none⟩ = some (.int .i64 f.fi)) ((first | exact ⟨bl0, bl1, bl2, bl3, bl4, bl5, bl6, bl7, bl8, b20, b4⟩ | exact ⟨al0, al1, al2, al3, al4, al5, al6, al7, al8, a20, a4⟩ | exact ⟨dl0, dl1, dl2, dl3, dl4, dl5, dl6, dl7, dl8, d20, d4⟩ | go_keep))
    (first
      | (go_at_call 188
         refine (lslot_any (c := c) hin _).mono ?_
         rintro e W2 ⟨rfl, hb⟩
         have P2 := Lib.hid (P1.out.below hb)
         have B2 := Lib.hid (B1.out.below hb)
         have F2 := Lib.hid (F1.out.trans (Fr.old hb))
         clear hb
         obtain ⟨al0, al1, al2, al3, al4, al5, al6, al7, al8⟩ := P2.out.layS HL.out
         change W2.cell? _ = _ at al0 al1 al2 al3 al4 al5 al6 al7 al8
         have a20 : W2.cell? ⟨p, 20, none⟩ = some (.pointer (some ⟨m, 0, none⟩)) := P2.out.at20
         have a4 : W2.cell? ⟨q, 4, none⟩ = some (.int .i64 f.fi) := B2.out.blk.at_ 4)
      | (go_at_call 9
         refine (store_any P2.out.mem _ _).mono ?_
         rintro e W3 ⟨rfl, hm, hf⟩
         have P3 := Lib.hid (P2.out.acc hm hf)
         have B3 := Lib.hid (B2.out.acc P2.out hf)
         have F3 := Lib.hid (F2.out.trans (hf.mono (by simp)))
         clear hm hf
         obtain ⟨bl0, bl1, bl2, bl3, bl4, bl5, bl6, bl7, bl8⟩ := P3.out.layS HL.out
         change W3.cell? _ = _ at bl0 bl1 bl2 bl3 bl4 bl5 bl6 bl7 bl8
         have b20 : W3.cell? ⟨p, 20, none⟩ = some (.pointer (some ⟨m, 0, none⟩)) := P3.out.at20
         have b4 : W3.cell? ⟨q, 4, none⟩ = some (.int .i64 f.fi) := B3.out.blk.at_ 4))
  clear dl0 dl1 dl2 dl3 dl4 dl5 dl6 dl7 dl8 d20 d4 al0 al1 al2 al3 al4 al5 al6 al7 al8 a20 a4 bl0 bl1 bl2 bl3 bl4 bl5 bl6 bl7 bl8 b20 b4 P1 B1 F1 P2 B2 F2
  go_end0
  exact ⟨rfl, P3.out, B3.out, F3.out⟩
set_option maxRecDepth 100000 in
set_option maxHeartbeats 4000000 in
theorem hstoreSize_x (hp : PE w p m k g cap s t d hd rv ev) (hl : LayHd hd c) (h : LB w q ty (hpost rest f) f 0 0) (x : Int) :
    Calls Tryz.prog 178 #[.pointer (some ⟨q, 0, none⟩), .pointer (some ⟨p, 0, none⟩), .int .i64 x] w fun e w' => e = .returned (.tuple #[]) ∧ PE w' p m k g cap (s.go 2 2 (fun _ => IntKind.u64.wrap (IntKind.i64.wrap (f.fn + x)))) t d hd rv ev ∧ LB w' q ty (hpost rest f) f 0 0 ∧ Fr [m, g, q] w w' := by
  have P0 := Lib.hid hp
  have B0 := Lib.hid h
  have F0 := Lib.hid (Fr.refl [m, g, q] w)
  have HL := Lib.hid hl
  clear hp h hl
  go_enter Tryz.func178, Tryz.ntmps178
  go_wp2_with fail
  have P1 := Lib.hid (P0.out.drewN 1)
  have B1 := Lib.hid B0.out.drew
  have F1 := Lib.hid F0.out.drew
  clear P0 B0 F0
  obtain ⟨dl0, dl1, dl2, dl3, dl4, dl5, dl6, dl7, dl8⟩ := P1.out.layS HL.out
  change w.drew.cell? _ = _ at dl0 dl1 dl2 dl3 dl4 dl5 dl6 dl7 dl8
  have d20 : w.drew.cell? ⟨p, 20, none⟩ = some (.pointer (some ⟨m, 0, none⟩)) := P1.out.at20
  have d3 : w.drew.cell? ⟨q, 3, none⟩ = some (.int .i64 f.fn) := B1.out.blk.at_ 3
  go_region_held3 (fun w' => w'.cell? ⟨p, 11, none⟩ = some (.int .i64 4) ∧ w'.cell? ⟨p, 12, none⟩ = some (.int .i64 (4 + c.he)) ∧ w'.cell? ⟨p, 13, none⟩ = some (.int .i64 (4 + c.he + c.cl)) ∧ w'.cell? ⟨p, 14, none⟩ = some (.int .i64 (4 + c.he + c.cl + c.wo)) ∧ w'.cell? ⟨p, 15, none⟩ = some (.int .i64 (rDeques c)) ∧ w'.cell? ⟨p, 16, none⟩ = some (.int .i64 (rDeques c + rAll c)) ∧ w'.cell? ⟨p, 17, none⟩ = some (.int .i64 (rCells c)) ∧ w'.cell? ⟨p, 18, none⟩ = some (.int .i64 c.le) ∧ w'.cell? ⟨p, 19, none⟩ = some (.int .i64 c.de) ∧ w'.cell? ⟨p, 20, none⟩ = some (.pointer (some ⟨m, 0, none⟩)) ∧ w'.cell? ⟨q, 3, none⟩ = some (.int .i64 f.fn)) ((first | exact ⟨bl0, bl1, bl2, bl3, bl4, bl5, bl6, bl7, bl8, b20, b3⟩ | exact ⟨al0, al1, al2, al3, al4, al5, al6, al7, al8, a20, a3⟩ | exact ⟨dl0, dl1, dl2, dl3, dl4, dl5, dl6, dl7, dl8, d20, d3⟩ | go_keep))
    (first
      | (go_at_call 187
         refine (lsize_any (c := c)).mono ?_
         rintro e W2 ⟨rfl, hb⟩
         have P2 := Lib.hid (P1.out.below hb)
         have B2 := Lib.hid (B1.out.below hb)
         have F2 := Lib.hid (F1.out.trans (Fr.old hb))
         clear hb
         obtain ⟨al0, al1, al2, al3, al4, al5, al6, al7, al8⟩ := P2.out.layS HL.out
         change W2.cell? _ = _ at al0 al1 al2 al3 al4 al5 al6 al7 al8
         have a20 : W2.cell? ⟨p, 20, none⟩ = some (.pointer (some ⟨m, 0, none⟩)) := P2.out.at20
         have a3 : W2.cell? ⟨q, 3, none⟩ = some (.int .i64 f.fn) := B2.out.blk.at_ 3)
      | (go_at_call 9
         refine (store_any P2.out.mem _ _).mono ?_
         rintro e W3 ⟨rfl, hm, hf⟩
         have P3 := Lib.hid (P2.out.acc hm hf)
         have B3 := Lib.hid (B2.out.acc P2.out hf)
         have F3 := Lib.hid (F2.out.trans (hf.mono (by simp)))
         clear hm hf
         obtain ⟨bl0, bl1, bl2, bl3, bl4, bl5, bl6, bl7, bl8⟩ := P3.out.layS HL.out
         change W3.cell? _ = _ at bl0 bl1 bl2 bl3 bl4 bl5 bl6 bl7 bl8
         have b20 : W3.cell? ⟨p, 20, none⟩ = some (.pointer (some ⟨m, 0, none⟩)) := P3.out.at20
         have b3 : W3.cell? ⟨q, 3, none⟩ = some (.int .i64 f.fn) := B3.out.blk.at_ 3))
  clear dl0 dl1 dl2 dl3 dl4 dl5 dl6 dl7 dl8 d20 d3 al0 al1 al2 al3 al4 al5 al6 al7 al8 a20 a3 bl0 bl1 bl2 bl3 bl4 bl5 bl6 bl7 bl8 b20 b3 P1 B1 F1 P2 B2 F2
  go_end0
  exact ⟨rfl, P3.out, B3.out, F3.out⟩
theorem hstoreSize_any (hp : PE w p m k g cap s t d hd rv ev) (hl : LayHd hd c) (h : LB w q ty (hpost rest f) f 0 0) (x : Int) :
    Calls Tryz.prog 178 #[.pointer (some ⟨q, 0, none⟩), .pointer (some ⟨p, 0, none⟩), .int .i64 x] w fun e w' => e = .returned (.tuple #[]) ∧ PE w' p m k g cap (s.go 2 2 (fun _ => IntKind.u64.wrap (wrap64 (f.fn + x)))) t d hd rv ev ∧ LB w' q ty (hpost rest f) f 0 0 ∧ Fr [m, g, q] w w' := by
  have h := hstoreSize_x hp hl h x
  rw [wrap_two] at h
  exact h

theorem hstoreLess_any (hp : PE w p m k g cap s t d hd rv ev) (hl : LayHd hd c) (h : LB w q ty (hpost rest f) f 0 0) :
    Calls Tryz.prog 178 #[.pointer (some ⟨q, 0, none⟩), .pointer (some ⟨p, 0, none⟩), .int .i64 (-1)] w fun e w' => e = .returned (.tuple #[]) ∧ PE w' p m k g cap (s.go 2 2 (fun _ => IntKind.u64.wrap (wrap64 (f.fn - 1)))) t d hd rv ev ∧ LB w' q ty (hpost rest f) f 0 0 ∧ Fr [m, g, q] w w' := by
  have h := hstoreSize_any hp hl h (-1)
  rw [show f.fn + -1 = f.fn - 1 by omega] at h
  exact h

end
end Go.Proofs.YtanbjdlaolgepaaGreat
