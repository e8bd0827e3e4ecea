/-
  Package table: what its machines share, and the steps of Allocate, Publish and Claim. (Written by wip/gen_tba.py.)
-/
import Derived.Test.YtgipddeldddbnaaGreatMgAH
import Derived.Test.YtgipddeldddbnaaGreatMgAM
import Derived.Test.YtgipddeldddbnaaGreatMgAO
import Derived.Test.YtgipddeldddbnaaGreatMgAN
namespace Go.Proofs.YtgipddeldddbnaaGreat
open Go Go.RowKit Go.Shelf
set_option linter.unusedSimpArgs false
set_option linter.unusedVariables false

section
variable {w w' : World} {p m k g cap : Nat} {s : St} {t d : Int} {hd : List Value} {rv ev : Value} {q o : Nat} {f : Fra} {c : Cfg} {ty : TypeId} {cs : Array Value} {tk : Int}
set_option maxHeartbeats 2000000 in
theorem pistask_any (hp : PE w p m k g cap s t d hd rv ev) (hl : LayHd hd c) (x : Int) :
    Calls Tryz.prog 71 #[.pointer (some ⟨p, 0, none⟩), .int .i64 x] w fun e w' => e = .returned (.bool (isT c x)) ∧ w = w' := by
  have e3 : w.cell? ⟨p, 3, none⟩ = some (.int .i64 c.ta) := hp.num hl 3 (by omega)
  clear hp hl
  unfold isT
  by_cases h0 : 0 ≤ x
  · have h1 : decide ((0 : Int) ≤ x) = true := by simpa using h0
    rw [h1]
    go_enter Tryz.func71, Tryz.ntmps71
    go_wp2
    go_ret
    exact ⟨rfl, rfl⟩
  · have h1 : decide ((0 : Int) ≤ x) = false := by simpa using h0
    rw [h1]
    go_enter Tryz.func71, Tryz.ntmps71
    go_wp2
    go_ret
    exact ⟨rfl, rfl⟩
set_option maxHeartbeats 2000000 in
theorem missing_any (hp : PE w p m k g cap s t d hd rv ev) (hl : LayHd hd c) (hc : w.cell? ⟨q, o, none⟩ = some (.int .i64 tk)) :
    Calls Tryz.prog 61 #[.pointer (some ⟨q, o, none⟩), .pointer (some ⟨p, 0, none⟩)] w fun e w' => e = .returned (.bool (!isT c tk)) ∧ w = w' := by
  have HT := Lib.hid (pistask_any hp hl tk)
  clear hp hl
  go_enter Tryz.func61, Tryz.ntmps61
  go_wp2_with fail
  (with_reducible refine HT.out.mono ?_)
  rintro e w1 ⟨rfl, rfl⟩
  go_wp2
  go_ret
  exact ⟨rfl, rfl⟩

set_option maxRecDepth 100000 in
set_option maxHeartbeats 2000000 in
theorem stamp_any (hp : PE w p m k g cap s t d hd rv ev) (hl : LayHd hd c) (hin : CfgIn c) (hb : Blk w q ty cs) (n2 : q ≠ m) (n4 : q ≠ g) (ho : cs[o]? = some (.int .i64 tk)) :
    Calls Tryz.prog 63 #[.pointer (some ⟨q, o, none⟩), .pointer (some ⟨p, 0, none⟩)] w fun e w' => e = .returned (.tuple #[]) ∧ Mem w' m g cap (s.go 2 (rTask c tk 4) fun _ => IntKind.u64.wrap t) ∧ Fr [m, g] w w' := by
  have P0 := Lib.hid (hp.drewN 1)
  have B0 := Lib.hid (show Blk w.drew q ty cs from hb)
  have HN := Lib.hid (And.intro n2 n4)
  have HL := Lib.hid hl
  have F0 := Lib.hid (Fr.refl [m, g] w).drew
  have HC2 := Lib.hid ho
  obtain ⟨d0, d1, d2, d3, d4, d5, d6, d7, d8⟩ := P0.out.layS HL.out
  have dx0 : w.drew.cell? ⟨p, 20, none⟩ = some (.pointer (some ⟨m, 0, none⟩)) := P0.out.at20
  have dx1 : w.drew.cell? ⟨p, 21, none⟩ = some (.pointer (some ⟨k, 0, none⟩)) := P0.out.at21
  have dx2 : w.drew.cell? ⟨q, o, none⟩ = some (.int .i64 tk) := by rw [B0.out.at_]; exact HC2.out
  change w.drew.cell? _ = _ at d0 d1 d2 d3 d4 d5 d6 d7 d8
  clear hp hb n2 n4 ho hl
  go_enter Tryz.func63, Tryz.ntmps63
  go_wp2_with fail
  go_region_held3 (fun w' => w'.cell? ⟨p, 11, none⟩ = some (.int .i64 4) ∧ w'.cell? ⟨p, 12, none⟩ = some (.int .i64 (4 + c.he)) ∧ w'.cell? ⟨p, 13, none⟩ = some (.int .i64 (4 + c.he + c.cl)) ∧ w'.cell? ⟨p, 14, none⟩ = some (.int .i64 (4 + c.he + c.cl + c.wo)) ∧ w'.cell? ⟨p, 15, none⟩ = some (.int .i64 (rDeques c)) ∧ w'.cell? ⟨p, 16, none⟩ = some (.int .i64 (rDeques c + rAll c)) ∧ w'.cell? ⟨p, 17, none⟩ = some (.int .i64 (rCells c)) ∧ w'.cell? ⟨p, 18, none⟩ = some (.int .i64 c.le) ∧ w'.cell? ⟨p, 19, none⟩ = some (.int .i64 c.de) ∧ w'.cell? ⟨p, 20, none⟩ = some (.pointer (some ⟨m, 0, none⟩)) ∧ w'.cell? ⟨p, 21, none⟩ = some (.pointer (some ⟨k, 0, none⟩)) ∧ w'.cell? ⟨q, o, none⟩ = some (.int .i64 tk)) ((first | exact ⟨x0, x1, x2, x3, x4, x5, x6, x7, x8, xx0, xx1, xx2⟩ | exact ⟨a0, a1, a2, a3, a4, a5, a6, a7, a8, ax0, ax1, ax2⟩ | exact ⟨b0, b1, b2, b3, b4, b5, b6, b7, b8, bx0, bx1, bx2⟩ | exact ⟨d0, d1, d2, d3, d4, d5, d6, d7, d8, dx0, dx1, dx2⟩ | go_keep))
    (first
     | (go_at_call 73
        refine (lsince_any (c := c) hin tk).mono ?_
        rintro e w1 ⟨rfl, hb⟩
        have P1 := Lib.hid (P0.out.below hb)
        have B1 := Lib.hid (B0.out.below hb)
        have F1 := Lib.hid (F0.out.trans (Fr.old hb))
        obtain ⟨b0, b1, b2, b3, b4, b5, b6, b7, b8⟩ := P1.out.layS HL.out
        have bx0 : w1.cell? ⟨p, 20, none⟩ = some (.pointer (some ⟨m, 0, none⟩)) := P1.out.at20
        have bx1 : w1.cell? ⟨p, 21, none⟩ = some (.pointer (some ⟨k, 0, none⟩)) := P1.out.at21
        have bx2 : w1.cell? ⟨q, o, none⟩ = some (.int .i64 tk) := by rw [B1.out.at_]; exact HC2.out
        clear hb)
     | (go_at_call 74
        refine (now_any P1.out.clk).mono ?_
        rintro e w2 ⟨rfl, rfl⟩
        have P2 := P1
        have B2 := B1
        have F2 := F1
        skip)
     | (go_at_call 72
        refine (store_any P2.out.mem _ _).mono ?_
        rintro e w3 ⟨rfl, hm, hf⟩
        have HM := Lib.hid hm
        have P3 := Lib.hid (P2.out.acc hm hf)
        have B3 := Lib.hid (B2.out.of_same (hf.block q B2.out.lt (by simp [HN.out.1, HN.out.2])))
        have F3 := Lib.hid (F2.out.trans hf)
        obtain ⟨x0, x1, x2, x3, x4, x5, x6, x7, x8⟩ := P3.out.layS HL.out
        have xx0 : w3.cell? ⟨p, 20, none⟩ = some (.pointer (some ⟨m, 0, none⟩)) := P3.out.at20
        have xx1 : w3.cell? ⟨p, 21, none⟩ = some (.pointer (some ⟨k, 0, none⟩)) := P3.out.at21
        have xx2 : w3.cell? ⟨q, o, none⟩ = some (.int .i64 tk) := by rw [B3.out.at_]; exact HC2.out
        clear hm hf))
  all_goals
    go_end0
    exact ⟨rfl, HM.out, F3.out⟩
set_option maxRecDepth 100000 in
set_option maxHeartbeats 2000000 in
theorem mkready_any (hp : PE w p m k g cap s t d hd rv ev) (hl : LayHd hd c) (hin : CfgIn c) (hb : Blk w q ty cs) (n2 : q ≠ m) (n4 : q ≠ g) (ho : cs[o]? = some (.int .i64 tk)) :
    Calls Tryz.prog 65 #[.pointer (some ⟨q, o, none⟩), .pointer (some ⟨p, 0, none⟩)] w fun e w' => e = .returned (.tuple #[]) ∧ Mem w' m g cap (s.go 2 (rTask c tk 0) fun _ => 1) ∧ Fr [m, g] w w' := by
  have P0 := Lib.hid (hp.drewN 1)
  have B0 := Lib.hid (show Blk w.drew q ty cs from hb)
  have HN := Lib.hid (And.intro n2 n4)
  have HL := Lib.hid hl
  have F0 := Lib.hid (Fr.refl [m, g] w).drew
  have HC1 := Lib.hid ho
  obtain ⟨d0, d1, d2, d3, d4, d5, d6, d7, d8⟩ := P0.out.layS HL.out
  have dx0 : w.drew.cell? ⟨p, 20, none⟩ = some (.pointer (some ⟨m, 0, none⟩)) := P0.out.at20
  have dx1 : w.drew.cell? ⟨q, o, none⟩ = some (.int .i64 tk) := by rw [B0.out.at_]; exact HC1.out
  change w.drew.cell? _ = _ at d0 d1 d2 d3 d4 d5 d6 d7 d8
  clear hp hb n2 n4 ho hl
  go_enter Tryz.func65, Tryz.ntmps65
  go_wp2_with fail
  go_region_held3 (fun w' => w'.cell? ⟨p, 11, none⟩ = some (.int .i64 4) ∧ w'.cell? ⟨p, 12, none⟩ = some (.int .i64 (4 + c.he)) ∧ w'.cell? ⟨p, 13, none⟩ = some (.int .i64 (4 + c.he + c.cl)) ∧ w'.cell? ⟨p, 14, none⟩ = some (.int .i64 (4 + c.he + c.cl + c.wo)) ∧ w'.cell? ⟨p, 15, none⟩ = some (.int .i64 (rDeques c)) ∧ w'.cell? ⟨p, 16, none⟩ = some (.int .i64 (rDeques c + rAll c)) ∧ w'.cell? ⟨p, 17, none⟩ = some (.int .i64 (rCells c)) ∧ w'.cell? ⟨p, 18, none⟩ = some (.int .i64 c.le) ∧ w'.cell? ⟨p, 19, none⟩ = some (.int .i64 c.de) ∧ w'.cell? ⟨p, 20, none⟩ = some (.pointer (some ⟨m, 0, none⟩)) ∧ w'.cell? ⟨q, o, none⟩ = some (.int .i64 tk)) ((first | exact ⟨a0, a1, a2, a3, a4, a5, a6, a7, a8, ax0, ax1⟩ | exact ⟨b0, b1, b2, b3, b4, b5, b6, b7, b8, bx0, bx1⟩ | exact ⟨d0, d1, d2, d3, d4, d5, d6, d7, d8, dx0, dx1⟩ | go_keep))
    (first
     | (go_at_call 75
        refine (lstate_any (c := c) hin tk).mono ?_
        rintro e w1 ⟨rfl, hb⟩
        have P1 := Lib.hid (P0.out.below hb)
        have B1 := Lib.hid (B0.out.below hb)
        have F1 := Lib.hid (F0.out.trans (Fr.old hb))
        obtain ⟨b0, b1, b2, b3, b4, b5, b6, b7, b8⟩ := P1.out.layS HL.out
        have bx0 : w1.cell? ⟨p, 20, none⟩ = some (.pointer (some ⟨m, 0, none⟩)) := P1.out.at20
        have bx1 : w1.cell? ⟨q, o, none⟩ = some (.int .i64 tk) := by rw [B1.out.at_]; exact HC1.out
        clear hb)
     | (go_at_call 72
        refine (store_any P1.out.mem _ _).mono ?_
        rintro e w2 ⟨rfl, hm, hf⟩
        have HM := Lib.hid hm
        have P2 := Lib.hid (P1.out.acc hm hf)
        have B2 := Lib.hid (B1.out.of_same (hf.block q B1.out.lt (by simp [HN.out.1, HN.out.2])))
        have F2 := Lib.hid (F1.out.trans hf)
        obtain ⟨a0, a1, a2, a3, a4, a5, a6, a7, a8⟩ := P2.out.layS HL.out
        have ax0 : w2.cell? ⟨p, 20, none⟩ = some (.pointer (some ⟨m, 0, none⟩)) := P2.out.at20
        have ax1 : w2.cell? ⟨q, o, none⟩ = some (.int .i64 tk) := by rw [B2.out.at_]; exact HC1.out
        clear hm hf))
  go_end0
  exact ⟨rfl, HM.out, F2.out⟩
end
end Go.Proofs.YtgipddeldddbnaaGreat
