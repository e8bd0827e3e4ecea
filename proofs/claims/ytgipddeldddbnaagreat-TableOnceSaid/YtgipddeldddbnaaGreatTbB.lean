/-
  Package table: the steps of Allocate, Publish and Claim. (Written by wip/gen_tbb.py.)
-/
import Derived.Test.YtgipddeldddbnaaGreatTbA
namespace Go.Proofs.YtgipddeldddbnaaGreat
open Go Go.RowKit Go.Shelf
set_option linter.unusedSimpArgs false
set_option linter.unusedVariables false

section
variable {w w' : World} {p m k g cap : Nat} {s : St} {t d : Int} {hd : List Value} {rv ev : Value} {q o : Nat} {f : Fra} {c : Cfg} {ty : TypeId} {cs : Array Value} {tk : Int}

set_option maxRecDepth 100000 in
set_option maxHeartbeats 2000000 in
theorem allocator_got (hp : PE w p m k g cap s t d hd rv ev) (hl : LayHd hd c) (hin : CfgIn c) (h : LB w q 97 ([]) f 0 0) (hln : f.ln = 1) (ht : isT c (wrap64 (s.old 0)) = true) :
    Calls Tryz.prog 90 #[.pointer (some ⟨q, 0, none⟩), .pointer (some ⟨p, 0, none⟩)] w (LStepped w p m k g cap (s.go 6 0 (fun x => IntKind.u64.wrap (x + 1))) t d hd rv ev q 97 ([]) (f) ⟨true, 1, wrap64 (s.old 0)⟩) := by
  have P0 := Lib.hid hp
  have B0 := Lib.hid h
  have F0 := Lib.hid (Fr.refl [m, g, q] w)
  have HL := Lib.hid hl
  have hc0 := lline_any B0.out
  rw [hln] at hc0
  have HC0 := Lib.hid hc0
  have N4 := Lib.hid (B0.out.ne P0.out)
  clear hp h hl hc0
  go_enter Tryz.func90, Tryz.ntmps90
  go_wp2_with fail
  (with_reducible refine HC0.out.mono ?_)
  rintro e wx ⟨rfl, rfl⟩
  clear HC0
  have HT := Lib.hid ht
  clear ht
  go_upto_region 2 with fail
  have P1 := Lib.hid (P0.out.drewN 1)
  have B1 := Lib.hid B0.out.drew
  have F1 := Lib.hid F0.out.drew
  obtain ⟨d0, d1, d2, d3, d4, d5, d6, d7, d8⟩ := P1.out.layS HL.out
  have dx0 : w.drew.cell? ⟨p, 20, none⟩ = some (.pointer (some ⟨m, 0, none⟩)) := P1.out.at20
  change w.drew.cell? _ = _ at d0 d1 d2 d3 d4 d5 d6 d7 d8
  go_region_held3 (fun w' => w'.cell? ⟨p, 11, none⟩ = some (.int .i64 4) ∧ w'.cell? ⟨p, 12, none⟩ = some (.int .i64 (4 + c.he)) ∧ w'.cell? ⟨p, 13, none⟩ = some (.int .i64 (4 + c.he + c.cl)) ∧ w'.cell? ⟨p, 14, none⟩ = some (.int .i64 (4 + c.he + c.cl + c.wo)) ∧ w'.cell? ⟨p, 15, none⟩ = some (.int .i64 (rDeques c)) ∧ w'.cell? ⟨p, 16, none⟩ = some (.int .i64 (rDeques c + rAll c)) ∧ w'.cell? ⟨p, 17, none⟩ = some (.int .i64 (rCells c)) ∧ w'.cell? ⟨p, 18, none⟩ = some (.int .i64 c.le) ∧ w'.cell? ⟨p, 19, none⟩ = some (.int .i64 c.de) ∧ w'.cell? ⟨p, 20, none⟩ = some (.pointer (some ⟨m, 0, none⟩))) ((first | exact ⟨y0, y1, y2, y3, y4, y5, y6, y7, y8, yx0⟩ | exact ⟨x0, x1, x2, x3, x4, x5, x6, x7, x8, xx0⟩ | exact ⟨d0, d1, d2, d3, d4, d5, d6, d7, d8, dx0⟩ | go_keep))
    (first
     | (go_at_call 92
        refine (lynext_any (c := c)).mono ?_
        rintro e u2 ⟨rfl, hb⟩
        have P2 := Lib.hid (P1.out.below hb)
        have B2 := Lib.hid (B1.out.below hb)
        have F2 := Lib.hid (F1.out.trans (Fr.old hb))
        obtain ⟨x0, x1, x2, x3, x4, x5, x6, x7, x8⟩ := P2.out.layS HL.out
        have xx0 : u2.cell? ⟨p, 20, none⟩ = some (.pointer (some ⟨m, 0, none⟩)) := P2.out.at20
        clear hb)
     | (go_at_call 91
        refine (add_any P2.out.mem _ _).mono ?_
        rintro e u3 ⟨rfl, hm, hf⟩
        have P3 := Lib.hid (P2.out.acc hm hf)
        have B3 := Lib.hid (B2.out.acc P2.out hf)
        have F3 := Lib.hid (F2.out.trans (hf.mono (by simp)))
        obtain ⟨y0, y1, y2, y3, y4, y5, y6, y7, y8⟩ := P3.out.layS HL.out
        have yx0 : u3.cell? ⟨p, 20, none⟩ = some (.pointer (some ⟨m, 0, none⟩)) := P3.out.at20
        clear hm hf))
  clear d0 d1 d2 d3 d4 d5 d6 d7 d8 dx0 x0 x1 x2 x3 x4 x5 x6 x7 x8 xx0 y0 y1 y2 y3 y4 y5 y6 y7 y8 yx0 P0 B0 F0 P1 B1 F1 P2 B2 F2
  have HI := Lib.hid (pistask_any P3.out HL.out (wrap64 (s.old 0)))
  rw [HT.out] at HI
  go_wp2_with fail
  (with_reducible refine HI.out.mono ?_)
  rintro e wz ⟨rfl, rfl⟩
  go_wp2_with fail
  (with_reducible refine (lend_any B3.out 1 (wrap64 (s.old 0)) ).mono ?_)
  rintro e w9 ⟨rfl, hb, hf⟩
  have P4 := Lib.hid (P3.out.lown B3.out hf)
  have B4 := Lib.hid hb
  have F4 := Lib.hid (F3.out.trans (hf.mono (by simp)))
  clear hb hf P3 B3 F3
  go_wp2
  go_ret
  exact ⟨rfl, P4.out, B4.out, F4.out⟩
set_option maxRecDepth 100000 in
set_option maxHeartbeats 2000000 in
theorem allocator_full (hp : PE w p m k g cap s t d hd rv ev) (hl : LayHd hd c) (hin : CfgIn c) (h : LB w q 97 ([]) f 0 0) (hln : f.ln = 1) (ht : isT c (wrap64 (s.old 0)) = false) :
    Calls Tryz.prog 90 #[.pointer (some ⟨q, 0, none⟩), .pointer (some ⟨p, 0, none⟩)] w (LStepped w p m k g cap (s.go 6 0 (fun x => IntKind.u64.wrap (x + 1))) t d hd rv ev q 97 ([]) (f) ⟨true, 3, 0⟩) := by
  have P0 := Lib.hid hp
  have B0 := Lib.hid h
  have F0 := Lib.hid (Fr.refl [m, g, q] w)
  have HL := Lib.hid hl
  have hc0 := lline_any B0.out
  rw [hln] at hc0
  have HC0 := Lib.hid hc0
  have N4 := Lib.hid (B0.out.ne P0.out)
  clear hp h hl hc0
  go_enter Tryz.func90, Tryz.ntmps90
  go_wp2_with fail
  (with_reducible refine HC0.out.mono ?_)
  rintro e wx ⟨rfl, rfl⟩
  clear HC0
  have HT := Lib.hid ht
  clear ht
  go_upto_region 2 with fail
  have P1 := Lib.hid (P0.out.drewN 1)
  have B1 := Lib.hid B0.out.drew
  have F1 := Lib.hid F0.out.drew
  obtain ⟨d0, d1, d2, d3, d4, d5, d6, d7, d8⟩ := P1.out.layS HL.out
  have dx0 : w.drew.cell? ⟨p, 20, none⟩ = some (.pointer (some ⟨m, 0, none⟩)) := P1.out.at20
  change w.drew.cell? _ = _ at d0 d1 d2 d3 d4 d5 d6 d7 d8
  go_region_held3 (fun w' => w'.cell? ⟨p, 11, none⟩ = some (.int .i64 4) ∧ w'.cell? ⟨p, 12, none⟩ = some (.int .i64 (4 + c.he)) ∧ w'.cell? ⟨p, 13, none⟩ = some (.int .i64 (4 + c.he + c.cl)) ∧ w'.cell? ⟨p, 14, none⟩ = some (.int .i64 (4 + c.he + c.cl + c.wo)) ∧ w'.cell? ⟨p, 15, none⟩ = some (.int .i64 (rDeques c)) ∧ w'.cell? ⟨p, 16, none⟩ = some (.int .i64 (rDeques c + rAll c)) ∧ w'.cell? ⟨p, 17, none⟩ = some (.int .i64 (rCells c)) ∧ w'.cell? ⟨p, 18, none⟩ = some (.int .i64 c.le) ∧ w'.cell? ⟨p, 19, none⟩ = some (.int .i64 c.de) ∧ w'.cell? ⟨p, 20, none⟩ = some (.pointer (some ⟨m, 0, none⟩))) ((first | exact ⟨y0, y1, y2, y3, y4, y5, y6, y7, y8, yx0⟩ | exact ⟨x0, x1, x2, x3, x4, x5, x6, x7, x8, xx0⟩ | exact ⟨d0, d1, d2, d3, d4, d5, d6, d7, d8, dx0⟩ | go_keep))
    (first
     | (go_at_call 92
        refine (lynext_any (c := c)).mono ?_
        rintro e u2 ⟨rfl, hb⟩
        have P2 := Lib.hid (P1.out.below hb)
        have B2 := Lib.hid (B1.out.below hb)
        have F2 := Lib.hid (F1.out.trans (Fr.old hb))
        obtain ⟨x0, x1, x2, x3, x4, x5, x6, x7, x8⟩ := P2.out.layS HL.out
        have xx0 : u2.cell? ⟨p, 20, none⟩ = some (.pointer (some ⟨m, 0, none⟩)) := P2.out.at20
        clear hb)
     | (go_at_call 91
        refine (add_any P2.out.mem _ _).mono ?_
        rintro e u3 ⟨rfl, hm, hf⟩
        have P3 := Lib.hid (P2.out.acc hm hf)
        have B3 := Lib.hid (B2.out.acc P2.out hf)
        have F3 := Lib.hid (F2.out.trans (hf.mono (by simp)))
        obtain ⟨y0, y1, y2, y3, y4, y5, y6, y7, y8⟩ := P3.out.layS HL.out
        have yx0 : u3.cell? ⟨p, 20, none⟩ = some (.pointer (some ⟨m, 0, none⟩)) := P3.out.at20
        clear hm hf))
  clear d0 d1 d2 d3 d4 d5 d6 d7 d8 dx0 x0 x1 x2 x3 x4 x5 x6 x7 x8 xx0 y0 y1 y2 y3 y4 y5 y6 y7 y8 yx0 P0 B0 F0 P1 B1 F1 P2 B2 F2
  have HI := Lib.hid (pistask_any P3.out HL.out (wrap64 (s.old 0)))
  rw [HT.out] at HI
  go_wp2_with fail
  (with_reducible refine HI.out.mono ?_)
  rintro e wz ⟨rfl, rfl⟩
  go_wp2_with fail
  (with_reducible refine (lend_any B3.out 3 0).mono ?_)
  rintro e w9 ⟨rfl, hb, hf⟩
  have P4 := Lib.hid (P3.out.lown B3.out hf)
  have B4 := Lib.hid hb
  have F4 := Lib.hid (F3.out.trans (hf.mono (by simp)))
  clear hb hf P3 B3 F3
  go_wp2
  go_ret
  exact ⟨rfl, P4.out, B4.out, F4.out⟩
set_option maxRecDepth 100000 in
set_option maxHeartbeats 2000000 in
theorem publisher_miss (hp : PE w p m k g cap s t d hd rv ev) (hl : LayHd hd c) (hin : CfgIn c) (h : LB w q 100 ([.int .i64 f.fa, .int .i64 f.fb]) f 0 0) (hln : f.ln = 1) (ht : isT c f.fa = false) :
    Calls Tryz.prog 95 #[.pointer (some ⟨q, 0, none⟩), .pointer (some ⟨p, 0, none⟩)] w (LStepped w p m k g cap (s) t d hd rv ev q 100 ([.int .i64 f.fa, .int .i64 f.fb]) (f) ⟨true, 4, 0⟩) := by
  have P0 := Lib.hid hp
  have B0 := Lib.hid h
  have F0 := Lib.hid (Fr.refl [m, g, q] w)
  have HL := Lib.hid hl
  have hc0 := lline_any B0.out
  rw [hln] at hc0
  have HC0 := Lib.hid hc0
  have N4 := Lib.hid (B0.out.ne P0.out)
  clear hp h hl hc0
  go_enter Tryz.func95, Tryz.ntmps95
  go_wp2_with fail
  (with_reducible refine HC0.out.mono ?_)
  rintro e wx ⟨rfl, rfl⟩
  clear HC0
  have HM := missing_any (q := q) (o := 3) (tk := f.fa) P0.out HL.out (by rw [B0.out.blk.at_]; rfl)
  rw [ht] at HM
  have HM := Lib.hid HM
  clear ht
  go_wp2_with fail
  (with_reducible refine HM.out.mono ?_)
  rintro e wz ⟨rfl, rfl⟩
  go_wp2_with fail
  (with_reducible refine (lend_any B0.out 4 0).mono ?_)
  rintro e w2 ⟨rfl, hb, hf⟩
  have P1 := Lib.hid (P0.out.lown B0.out hf)
  have B1 := Lib.hid hb
  have F1 := Lib.hid (F0.out.trans (hf.mono (by simp)))
  clear hb hf P0 B0 F0
  go_wp2
  go_ret
  exact ⟨rfl, P1.out, B1.out, F1.out⟩
set_option maxRecDepth 100000 in
set_option maxHeartbeats 2000000 in
theorem publisher_1 (hp : PE w p m k g cap s t d hd rv ev) (hl : LayHd hd c) (hin : CfgIn c) (h : LB w q 100 ([.int .i64 f.fa, .int .i64 f.fb]) f 0 0) (hln : f.ln = 1) (ht : isT c f.fa = true) :
    Calls Tryz.prog 95 #[.pointer (some ⟨q, 0, none⟩), .pointer (some ⟨p, 0, none⟩)] w (LStepped w p m k g cap (s.go 2 (rTask c f.fa 1) (fun _ => IntKind.u64.wrap f.fb)) t d hd rv ev q 100 ([.int .i64 f.fa, .int .i64 f.fb]) ({ f with ln := 2 }) .none) := by
  have P0 := Lib.hid hp
  have B0 := Lib.hid h
  have F0 := Lib.hid (Fr.refl [m, g, q] w)
  have HL := Lib.hid hl
  have hc0 := lline_any B0.out
  rw [hln] at hc0
  have HC0 := Lib.hid hc0
  have N4 := Lib.hid (B0.out.ne P0.out)
  clear hp h hl hc0
  go_enter Tryz.func95, Tryz.ntmps95
  go_wp2_with fail
  (with_reducible refine HC0.out.mono ?_)
  rintro e wx ⟨rfl, rfl⟩
  clear HC0
  have HM := missing_any (q := q) (o := 3) (tk := f.fa) P0.out HL.out (by rw [B0.out.blk.at_]; rfl)
  rw [ht] at HM
  have HM := Lib.hid HM
  clear ht
  go_wp2_with fail
  (with_reducible refine HM.out.mono ?_)
  rintro e wz ⟨rfl, rfl⟩
  clear HM
  go_upto_region 5 with fail
  have P1 := Lib.hid (P0.out.drewN 1)
  have B1 := Lib.hid B0.out.drew
  have F1 := Lib.hid F0.out.drew
  obtain ⟨d0, d1, d2, d3, d4, d5, d6, d7, d8⟩ := P1.out.layS HL.out
  have dx0 : w.drew.cell? ⟨p, 20, none⟩ = some (.pointer (some ⟨m, 0, none⟩)) := P1.out.at20
  have dx1 : w.drew.cell? ⟨q, 3, none⟩ = some (.int .i64 f.fa) := by rw [B1.out.blk.at_]; rfl
  have dx2 : w.drew.cell? ⟨q, 4, none⟩ = some (.int .i64 f.fb) := by rw [B1.out.blk.at_]; rfl
  change w.drew.cell? _ = _ at d0 d1 d2 d3 d4 d5 d6 d7 d8
  go_region_held3 (fun w' => w'.cell? ⟨p, 11, none⟩ = some (.int .i64 4) ∧ w'.cell? ⟨p, 12, none⟩ = some (.int .i64 (4 + c.he)) ∧ w'.cell? ⟨p, 13, none⟩ = some (.int .i64 (4 + c.he + c.cl)) ∧ w'.cell? ⟨p, 14, none⟩ = some (.int .i64 (4 + c.he + c.cl + c.wo)) ∧ w'.cell? ⟨p, 15, none⟩ = some (.int .i64 (rDeques c)) ∧ w'.cell? ⟨p, 16, none⟩ = some (.int .i64 (rDeques c + rAll c)) ∧ w'.cell? ⟨p, 17, none⟩ = some (.int .i64 (rCells c)) ∧ w'.cell? ⟨p, 18, none⟩ = some (.int .i64 c.le) ∧ w'.cell? ⟨p, 19, none⟩ = some (.int .i64 c.de) ∧ w'.cell? ⟨p, 20, none⟩ = some (.pointer (some ⟨m, 0, none⟩)) ∧ w'.cell? ⟨q, 3, none⟩ = some (.int .i64 f.fa) ∧ w'.cell? ⟨q, 4, none⟩ = some (.int .i64 f.fb)) ((first | exact ⟨y0, y1, y2, y3, y4, y5, y6, y7, y8, yx0, yx1, yx2⟩ | exact ⟨x0, x1, x2, x3, x4, x5, x6, x7, x8, xx0, xx1, xx2⟩ | exact ⟨d0, d1, d2, d3, d4, d5, d6, d7, d8, dx0, dx1, dx2⟩ | go_keep))
    (first
     | (go_at_call 67
        refine (llevel_any (c := c) hin f.fa).mono ?_
        rintro e u2 ⟨rfl, hb⟩
        have P2 := Lib.hid (P1.out.below hb)
        have B2 := Lib.hid (B1.out.below hb)
        have F2 := Lib.hid (F1.out.trans (Fr.old hb))
        obtain ⟨x0, x1, x2, x3, x4, x5, x6, x7, x8⟩ := P2.out.layS HL.out
        have xx0 : u2.cell? ⟨p, 20, none⟩ = some (.pointer (some ⟨m, 0, none⟩)) := P2.out.at20
        have xx1 : u2.cell? ⟨q, 3, none⟩ = some (.int .i64 f.fa) := by rw [B2.out.blk.at_]; rfl
        have xx2 : u2.cell? ⟨q, 4, none⟩ = some (.int .i64 f.fb) := by rw [B2.out.blk.at_]; rfl
        clear hb)
     | (go_at_call 72
        refine (store_any P2.out.mem _ _).mono ?_
        rintro e u3 ⟨rfl, hm, hf⟩
        have P3 := Lib.hid (P2.out.acc hm hf)
        have B3 := Lib.hid (B2.out.acc P2.out hf)
        have F3 := Lib.hid (F2.out.trans (hf.mono (by simp)))
        obtain ⟨y0, y1, y2, y3, y4, y5, y6, y7, y8⟩ := P3.out.layS HL.out
        have yx0 : u3.cell? ⟨p, 20, none⟩ = some (.pointer (some ⟨m, 0, none⟩)) := P3.out.at20
        have yx1 : u3.cell? ⟨q, 3, none⟩ = some (.int .i64 f.fa) := by rw [B3.out.blk.at_]; rfl
        have yx2 : u3.cell? ⟨q, 4, none⟩ = some (.int .i64 f.fb) := by rw [B3.out.blk.at_]; rfl
        clear hm hf))
  clear d0 d1 d2 d3 d4 d5 d6 d7 d8 dx0 dx1 dx2 x0 x1 x2 x3 x4 x5 x6 x7 x8 xx0 xx1 xx2 y0 y1 y2 y3 y4 y5 y6 y7 y8 yx0 yx1 yx2 P0 B0 F0 P1 B1 F1 P2 B2 F2
  go_wp2_with fail
  (with_reducible refine (lnext_any B3.out 2).mono ?_)
  rintro e w9 ⟨rfl, hb, hf⟩
  have P4 := Lib.hid (P3.out.lown B3.out hf)
  have B4 := Lib.hid hb
  have F4 := Lib.hid (F3.out.trans (hf.mono (by simp)))
  clear hb hf P3 B3 F3
  go_wp2
  go_ret
  exact ⟨rfl, P4.out, B4.out, F4.out⟩
set_option maxRecDepth 100000 in
set_option maxHeartbeats 2000000 in
theorem publisher_2 (hp : PE w p m k g cap s t d hd rv ev) (hl : LayHd hd c) (hin : CfgIn c) (h : LB w q 100 ([.int .i64 f.fa, .int .i64 f.fb]) f 0 0) (hln : f.ln = 2) :
    Calls Tryz.prog 95 #[.pointer (some ⟨q, 0, none⟩), .pointer (some ⟨p, 0, none⟩)] w (LStepped w p m k g cap (s.go 2 (rTask c f.fa 4) (fun _ => IntKind.u64.wrap t)) t d hd rv ev q 100 ([.int .i64 f.fa, .int .i64 f.fb]) ({ f with ln := 3 }) .none) := by
  have P0 := Lib.hid hp
  have B0 := Lib.hid h
  have F0 := Lib.hid (Fr.refl [m, g, q] w)
  have HL := Lib.hid hl
  have hc0 := lline_any B0.out
  rw [hln] at hc0
  have HC0 := Lib.hid hc0
  have N4 := Lib.hid (B0.out.ne P0.out)
  clear hp h hl hc0
  go_enter Tryz.func95, Tryz.ntmps95
  go_wp2_with fail
  (with_reducible refine HC0.out.mono ?_)
  rintro e wx ⟨rfl, rfl⟩
  clear HC0
  go_wp2_with fail
  (with_reducible refine (stamp_any (o := 3) (tk := f.fa) P0.out HL.out hin B0.out.blk N4.out.2.1 N4.out.2.2.2 rfl).mono ?_)
  rintro e w2 ⟨rfl, hm, hf⟩
  have P1 := Lib.hid (P0.out.acc hm hf)
  have B1 := Lib.hid (B0.out.acc P0.out hf)
  have F1 := Lib.hid (F0.out.trans (hf.mono (by simp)))
  clear hm hf P0 B0 F0
  go_wp2_with fail
  (with_reducible refine (lnext_any B1.out 3).mono ?_)
  rintro e w3 ⟨rfl, hb, hf⟩
  have P2 := Lib.hid (P1.out.lown B1.out hf)
  have B2 := Lib.hid hb
  have F2 := Lib.hid (F1.out.trans (hf.mono (by simp)))
  clear hb hf P1 B1 F1
  go_wp2
  go_ret
  exact ⟨rfl, P2.out, B2.out, F2.out⟩
set_option maxRecDepth 100000 in
set_option maxHeartbeats 2000000 in
theorem publisher_3 (hp : PE w p m k g cap s t d hd rv ev) (hl : LayHd hd c) (hin : CfgIn c) (h : LB w q 100 ([.int .i64 f.fa, .int .i64 f.fb]) f 0 0) (hln : f.ln = 3) :
    Calls Tryz.prog 95 #[.pointer (some ⟨q, 0, none⟩), .pointer (some ⟨p, 0, none⟩)] w (LStepped w p m k g cap (s.go 2 (rTask c f.fa 0) (fun _ => 1)) t d hd rv ev q 100 ([.int .i64 f.fa, .int .i64 f.fb]) (f) ⟨true, 0, 0⟩) := by
  have P0 := Lib.hid hp
  have B0 := Lib.hid h
  have F0 := Lib.hid (Fr.refl [m, g, q] w)
  have HL := Lib.hid hl
  have hc0 := lline_any B0.out
  rw [hln] at hc0
  have HC0 := Lib.hid hc0
  have N4 := Lib.hid (B0.out.ne P0.out)
  clear hp h hl hc0
  go_enter Tryz.func95, Tryz.ntmps95
  go_wp2_with fail
  (with_reducible refine HC0.out.mono ?_)
  rintro e wx ⟨rfl, rfl⟩
  clear HC0
  go_wp2_with fail
  (with_reducible refine (mkready_any (o := 3) (tk := f.fa) P0.out HL.out hin B0.out.blk N4.out.2.1 N4.out.2.2.2 rfl).mono ?_)
  rintro e w2 ⟨rfl, hm, hf⟩
  have P1 := Lib.hid (P0.out.acc hm hf)
  have B1 := Lib.hid (B0.out.acc P0.out hf)
  have F1 := Lib.hid (F0.out.trans (hf.mono (by simp)))
  clear hm hf P0 B0 F0
  go_wp2_with fail
  (with_reducible refine (lend_any B1.out 0 0).mono ?_)
  rintro e w3 ⟨rfl, hb, hf⟩
  have P2 := Lib.hid (P1.out.lown B1.out hf)
  have B2 := Lib.hid hb
  have F2 := Lib.hid (F1.out.trans (hf.mono (by simp)))
  clear hb hf P1 B1 F1
  go_wp2
  go_ret
  exact ⟨rfl, P2.out, B2.out, F2.out⟩
/-- A machine of Publish. -/
def PubOk (c : Cfg) (f : Fra) : Prop := f.ln = 1 ∨ (isT c f.fa = true ∧ (f.ln = 2 ∨ f.ln = 3))
theorem allocator_any (hp : PE w p m k g cap s t d hd rv ev) (hl : LayHd hd c) (hin : CfgIn c) (h : LB w q 97 [] f 0 0) (hln : f.ln = 1) :
    Calls Tryz.prog 90 #[.pointer (some ⟨q, 0, none⟩), .pointer (some ⟨p, 0, none⟩)] w (LStepped w p m k g cap (alcS c s).1 t d hd rv ev q 97 [] f (alcS c s).2) := by
  unfold alcS
  cases ht : isT c (wrap64 (s.old 0)) with
  | true => exact allocator_got hp hl hin h hln ht
  | false => exact allocator_full hp hl hin h hln ht
theorem publisher_any (hp : PE w p m k g cap s t d hd rv ev) (hl : LayHd hd c) (hin : CfgIn c) (h : LB w q 100 [.int .i64 f.fa, .int .i64 f.fb] f 0 0) (ho : PubOk c f) :
    Calls Tryz.prog 95 #[.pointer (some ⟨q, 0, none⟩), .pointer (some ⟨p, 0, none⟩)] w (LStepped w p m k g cap (pubS c t s f).1 t d hd rv ev q 100 [.int .i64 f.fa, .int .i64 f.fb] (pubS c t s f).2.1 (pubS c t s f).2.2) := by
  unfold pubS
  rcases ho with h1 | ⟨ht, h1 | h1⟩
  · cases ht : isT c f.fa with
    | true =>
      simp only [h1, if_true]
      exact publisher_1 hp hl hin h h1 ht
    | false => exact publisher_miss hp hl hin h h1 ht
  · simp only [ht, h1, if_true, show ¬ (2 : Int) = 1 by decide, if_false]
    exact publisher_2 hp hl hin h h1
  · simp only [ht, h1, if_true, show ¬ (3 : Int) = 1 by decide, show ¬ (3 : Int) = 2 by decide, if_false]
    exact publisher_3 hp hl hin h h1
end
end Go.Proofs.YtgipddeldddbnaaGreat
