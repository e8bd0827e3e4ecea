/-
  Package lock: the lines of its machines.
-/
import Derived.Test.YtclbkmhlgopcaaaMgAC
import Derived.Test.YtclbkmhlgopcaaaMgAM
namespace Go.Proofs.Ytclbkmhlgopcaaa
open Go Go.RowKit Go.Shelf
set_option linter.unusedSimpArgs false
set_option linter.unusedVariables false

section
variable {w : World} {p m k g cap : Nat} {s : St} {t d : Int} {hd : List Value} {rv ev : Value} {q : Nat} {f : Fra} {c : Cfg}

set_option maxRecDepth 100000 in
set_option maxHeartbeats 2000000 in
/-- An owner takes the lock if it is free. -/
theorem take_any (hp : PE w p m k g cap s t d hd rv ev) (hl : LayHd hd c) {ty : TypeId} {cs : Array Value} {a : Int} (hb : Blk w q ty cs) (n1 : q ≠ p) (n2 : q ≠ m) (n4 : q ≠ g) (h3 : cs[3]? = some (.int .i64 a)) :
    Calls Try.prog 68 #[.pointer (some ⟨q, 0, none⟩), .pointer (some ⟨p, 0, none⟩)] w fun e w' => e = .returned (.bool (s.hit 1 0)) ∧ Mem w' m g cap (lkTake s a) ∧ Fr [m, g] w w' := by
  have P0 := Lib.hid (hp.drewN 1)
  have B0 := Lib.hid (show Blk w.drew q ty cs from hb)
  have HN := Lib.hid (And.intro n1 (And.intro n2 n4))
  have H3 := Lib.hid h3
  have HL := Lib.hid hl
  have F0 := Lib.hid (Fr.refl [m, g] w).drew
  obtain ⟨d0, d1, d2, d3, d4, d5, d6, d7, d8⟩ := P0.out.layS hl
  have d20 : w.drew.cell? ⟨p, 20, none⟩ = some (.pointer (some ⟨m, 0, none⟩)) := P0.out.at20
  have dq : w.drew.cell? ⟨q, 3, none⟩ = some (.int .i64 a) := by rw [B0.out.at_]; exact h3
  change w.drew.cell? _ = _ at d0 d1 d2 d3 d4 d5 d6 d7 d8
  clear hp hb n1 n2 n4 h3 hl
  go_enter Try.func68, Try.ntmps68
  go_wp2_with fail
  go_region_held3 (fun w' => w'.cell? ⟨p, 11, none⟩ = some (.int .i64 4) ∧ w'.cell? ⟨p, 12, none⟩ = some (.int .i64 (4 + c.he)) ∧ w'.cell? ⟨p, 13, none⟩ = some (.int .i64 (4 + c.he + c.cl)) ∧ w'.cell? ⟨p, 14, none⟩ = some (.int .i64 (4 + c.he + c.cl + c.wo)) ∧ w'.cell? ⟨p, 15, none⟩ = some (.int .i64 (rDeques c)) ∧ w'.cell? ⟨p, 16, none⟩ = some (.int .i64 (rDeques c + rAll c)) ∧ w'.cell? ⟨p, 17, none⟩ = some (.int .i64 (rCells c)) ∧ w'.cell? ⟨p, 18, none⟩ = some (.int .i64 c.le) ∧ w'.cell? ⟨p, 19, none⟩ = some (.int .i64 c.de) ∧ w'.cell? ⟨p, 20, none⟩ = some (.pointer (some ⟨m, 0, none⟩)) ∧ w'.cell? ⟨q, 3, none⟩ = some (.int .i64 a)) ((first | exact ⟨a0, a1, a2, a3, a4, a5, a6, a7, a8, a20, aq⟩ | exact ⟨d0, d1, d2, d3, d4, d5, d6, d7, d8, d20, dq⟩ | go_keep))
    (first
     | (go_at_call 62
        refine (llock_any (c := c)).mono ?_
        rintro e w1 ⟨rfl, hb⟩
        have P1 := Lib.hid (P0.out.below hb)
        have B1 := Lib.hid (B0.out.below hb)
        have F1 := Lib.hid (F0.out.trans (Fr.old hb))
        obtain ⟨a0, a1, a2, a3, a4, a5, a6, a7, a8⟩ := P1.out.layS HL.out
        have a20 : w1.cell? ⟨p, 20, none⟩ = some (.pointer (some ⟨m, 0, none⟩)) := P1.out.at20
        have aq : w1.cell? ⟨q, 3, none⟩ = some (.int .i64 a) := by rw [B1.out.at_]; exact H3.out
        clear hb)
     | (go_at_call 70
        refine (cas_any P1.out.mem _ _ _).mono ?_
        rintro e w2 ⟨rfl, hm, hf⟩
        have HM := Lib.hid hm
        have HF := Lib.hid hf
        have B2 := Lib.hid (B1.out.of_same (hf.block q B1.out.lt (by simp [HN.out.2.1, HN.out.2.2])))
        have P2 := Lib.hid (P1.out.acc hm hf)
        obtain ⟨a0, a1, a2, a3, a4, a5, a6, a7, a8⟩ := P2.out.layS HL.out
        have a20 : w2.cell? ⟨p, 20, none⟩ = some (.pointer (some ⟨m, 0, none⟩)) := P2.out.at20
        have aq : w2.cell? ⟨q, 3, none⟩ = some (.int .i64 a) := by rw [B2.out.at_]; exact H3.out
        clear hm hf))
  go_wp2
  go_ret
  exact ⟨rfl, HM.out, F1.out.trans HF.out⟩
end
end Go.Proofs.Ytclbkmhlgopcaaa
