/-
  The walk of the statement LockFree: it returns true.
-/
import Derived.Test.YtclbkmhlgopcaaaLkW
namespace Go.Proofs.Ytclbkmhlgopcaaa
open Go Go.RowKit Go.Shelf
set_option linter.unusedSimpArgs false
set_option linter.unusedVariables false

theorem LB.other {w w' : World} {q b m g : Nat} {ty : TypeId} {post : List Value} {f : Fra} {cd vl : Int} {p k cap : Nat} {s : St} {t d : Int} {hd : List Value} {rv ev : Value} (h : LB w q ty post f cd vl) (hp : PE w p m k g cap s t d hd rv ev) (hf : Fr [m, g, b] w w') (hn : q ≠ b) : LB w' q ty post f cd vl := by
  obtain ⟨n1, n2, n3, n4⟩ := h.ne hp
  exact h.fr hf (by simp [n2, n4, hn])

set_option maxRecDepth 100000 in
set_option maxHeartbeats 16000000 in
theorem free15_law (w : World) (x y : Int) :
    Calls Try.prog 4 #[.int .i64 x, .int .i64 y] w fun e w' => e = .returned (.bool true) ∧ Below w.heap.size w w' := by
  have HX := Lib.hid (And.intro (lkU_eq x) (lkU_eq y))
  go_enter Try.func4, Try.ntmps4
  go_wp2_with fail
  (with_reducible refine (config_any (inB_nil w w.heap.size none) 0).mono ?_)
  rintro e w1 ⟨u, rfl, hcfg, hb1⟩
  obtain ⟨c, hcd⟩ : ∃ c, decC (strm []) = c := ⟨_, rfl⟩
  rw [hcd] at hcfg
  have hck := chk_dec (strm [])
  rw [hcd] at hck
  have HCK := Lib.hid (And.intro hcd hck)
  obtain ⟨pa, pn, pc, sa, sn, sc, rfl, hl⟩ := hcfg.isCfg
  have H1 := Lib.hid hl
  have B1 := Lib.hid hb1
  clear hl hb1 hcd hck hcfg
  go_wp2_with fail
  (with_reducible refine (enew_any H1.out _ _ HCK.out.2).mono ?_)
  rintro e w2 ⟨p, m, k, g, hd, rv, rfl, hE⟩
  have K2 := Lib.hid (nil_LK HCK.out.1)
  have E2 := Lib.hid (show EW w p m k g _ c hd rv (.slice none 0 0) _ w2 from ⟨hE.e, hE.l, hE.i, hE.u, B1.out.trans (hE.b.mono B1.out.size), by have := hE.lo; have := B1.out.size; omega⟩)
  clear hE H1 B1
  generalize (rCells c).toNat = cap at *
  generalize St.new cap = s0 at *
  go_wp2_with fail
  (with_reducible refine (awake15_any _).mono ?_)
  rintro e w3 ⟨rfl, hb⟩
  have E3 := Lib.hid (E2.out.below hb)
  have e20 := E3.out.e.at20
  clear hb E2
  by_cases hx0 : lkU x = 0
  · have hx1 : IntKind.u64.wrap (wrap64 (x + 1)) = 0 := by rw [lkU_eq]; exact hx0
    clear hx0
    go_wp2
    go_ret
    exact ⟨rfl, E3.out.b⟩
  have hx1 : (IntKind.u64.wrap (wrap64 (x + 1)) == 0) = false := by rw [lkU_eq]; simpa using hx0
  by_cases hy0 : lkU y = 0
  · have hy1 : IntKind.u64.wrap (wrap64 (y + 1)) = 0 := by rw [lkU_eq]; exact hy0
    clear hx0 hy0
    go_wp2
    go_ret
    exact ⟨rfl, E3.out.b⟩
  have hy1 : (IntKind.u64.wrap (wrap64 (y + 1)) == 0) = false := by rw [lkU_eq]; simpa using hy0
  have HXY := Lib.hid (And.intro hx0 hy0)
  clear hx0 hy0
  go_upto_region 6 with fail
  clear e20 hx1 hy1
  go_wp2_with fail
  (with_reducible refine (acquirer_new x _).mono ?_)
  rintro e w4 ⟨b4, rfl, hv, hbl, hb⟩
  have E4 := Lib.hid (E3.out.below hb)
  have HA := Lib.hid (acq_got (most := 9) (f := fra1 7 0 0 0 0 x) E4.out.e E4.out.l hv rfl K2.out (by decide))
  have K4 := Lib.hid (K2.out.got x).2
  have HBL := Lib.hid (Nat.le_trans E3.out.b.size hbl)
  clear hv hbl hb E3
  go_wp2_with fail
  (with_reducible refine HA.out.mono ?_)
  rintro e w5 ⟨rfl, hp, hf⟩
  have E5 := Lib.hid (E4.out.done HBL.out hp hf K4.out.u)
  clear hp hf HA HBL E4
  go_wp2_with fail
  (with_reducible refine (trier_new y _).mono ?_)
  rintro e w6 ⟨b6, rfl, hv, hbl, hb⟩
  have E6 := Lib.hid (E5.out.below hb)
  have HA := Lib.hid (try_busy (most := 9) (f := fra1 8 0 0 0 0 y) E6.out.e E6.out.l hv rfl K4.out HXY.out.1 (by decide))
  have K6 := Lib.hid (K4.out.busy HXY.out.1 y).2
  have HBL := Lib.hid (Nat.le_trans E5.out.b.size hbl)
  clear hv hbl hb E5
  go_wp2_with fail
  (with_reducible refine HA.out.mono ?_)
  rintro e w7 ⟨rfl, hp, hf⟩
  have E7 := Lib.hid (E6.out.done HBL.out hp hf K6.out.u)
  clear hp hf HA HBL E6
  go_wp2_with fail
  (with_reducible refine (acquirer_new y _).mono ?_)
  rintro e w8 ⟨b8, rfl, hv, hbl, hb⟩
  have E8 := Lib.hid (E7.out.below hb)
  have V8 := Lib.hid hv
  have HBL8 := Lib.hid (Nat.le_trans E7.out.b.size hbl)
  have km := meth_step_acquirer b8
  have ka := ahead_step_acquirer b8
  clear hv hbl hb E7
  -- the first step
  have HS := Lib.hid (acquirer_miss (f := fra1 7 0 0 0 0 y) E8.out.e E8.out.l V8.out rfl (K6.out.busy HXY.out.1 y).1)
  have K8 := Lib.hid (K6.out.busy HXY.out.1 y).2
  go_wp2_with fail
  (with_reducible refine HS.out.mono ?_)
  rintro e w9 ⟨rfl, hp, hb, hf⟩
  have E9 := Lib.hid (E8.out.done HBL8.out hp hf K8.out.u)
  have V9 := Lib.hid hb
  clear hp hb hf HS E8 V8
  have HS := Lib.hid (acquirer_miss (f := fra1 7 0 0 0 0 y) E9.out.e E9.out.l V9.out rfl (K8.out.busy HXY.out.1 y).1)
  have K9 := Lib.hid (K8.out.busy HXY.out.1 y).2
  go_wp2_with fail
  (with_reducible refine HS.out.mono ?_)
  rintro e w10 ⟨rfl, hp, hb, hf⟩
  have E10 := Lib.hid (E9.out.done HBL8.out hp hf K9.out.u)
  have V10 := Lib.hid hb
  clear hp hb hf HS E9 V9
  go_wp2_with fail
  (with_reducible refine (releaser_new _).mono ?_)
  rintro e w11 ⟨b11, rfl, hv, hbl, hb⟩
  have E11 := Lib.hid (E10.out.below hb)
  have V11 := Lib.hid (V10.out.below hb)
  have HA := Lib.hid (rel_alone (most := 9) (f := fra1 9 0 0 0 0 0) E11.out.e E11.out.l hv rfl (by decide))
  have K11 := Lib.hid (K9.out.free (fra1 9 0 0 0 0 0))
  have HBL := Lib.hid (Nat.le_trans E10.out.b.size hbl)
  have HNE := Lib.hid (show b8 ≠ b11 from fun e => by have := V10.out.blk.lt; omega)
  clear hv hbl hb E10 V10
  go_wp2_with fail
  (with_reducible refine HA.out.mono ?_)
  rintro e w12 ⟨rfl, hp, hf⟩
  have V12 := Lib.hid (V11.out.other E11.out.e hf HNE.out)
  have E12 := Lib.hid (E11.out.done HBL.out hp hf K11.out.u)
  clear hp hf HA HBL E11 V11
  have HS := Lib.hid (acquirer_hit (f := fra1 7 0 0 0 0 y) E12.out.e E12.out.l V12.out rfl (K11.out.got y).1)
  have K12 := Lib.hid (K11.out.got y).2
  go_wp2_with fail
  (with_reducible refine HS.out.mono ?_)
  rintro e w13 ⟨rfl, hp, hb, hf⟩
  have E13 := Lib.hid (E12.out.done HBL8.out hp hf K12.out.u)
  have e20 := E13.out.e.at20
  clear hp hb hf HS E12 V12
  go_wp2_with fail
  (with_reducible refine (peek_any E13.out.e.mem _).mono ?_)
  rintro e w14 ⟨rfl, rfl⟩
  have hK : (lkTake (relS (lkTake (lkTake (lkTake (lkTake s0 x) y) y) y) (fra1 9 0 0 0 0 0)).1 y).old 1 = IntKind.u64.wrap (wrap64 (y + 1)) := by
    rw [lkU_eq]
    exact K12.out.o
  first
  | rw [hK]
  | trace_state
  go_wp2
  go_ret
  exact ⟨rfl, E13.out.b⟩
end Go.Proofs.Ytclbkmhlgopcaaa
