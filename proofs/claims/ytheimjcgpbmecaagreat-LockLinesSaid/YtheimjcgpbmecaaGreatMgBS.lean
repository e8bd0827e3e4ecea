/-
  Package levels: Push and Pop, and the methods of their machines. (Written by wip/gen_lvl.py.)
  Pure: a step of a machine of levels keeps words what they are. No function is named.
  workstealmatch.Alone of the machines of levels. (Written by wip/gen_lvl.py.)
-/
import Derived.Test.YtheimjcgpbmecaaGreatMgBR
import Derived.Test.YtheimjcgpbmecaaGreatMgBP
import Derived.LoopTactic
import Derived.OwnWalk
namespace Go.Proofs.YtheimjcgpbmecaaGreat
open Go Go.RowKit Go.Shelf
set_option linter.unusedSimpArgs false

abbrev ocellz : Array Value := #[.int .i64 1, .int .i64 0, .int .i64 0, .nilIface]
abbrev ocell0 : Array Value := #[.int .i64 0, .int .i64 0, .int .i64 0, .nilIface]
set_option maxHeartbeats 2000000 in
theorem around_any (w : World) : Calls Tryz.prog 61 #[] w fun e w' => e = .returned (.agg ocellz) ∧ Below w.heap.size w w' := by
  have HX := Lib.hid (Blk.made w 138 ocell0)
  have HB := Lib.hid (below_one w (.cells ocell0 138))
  go_enter Tryz.func61, Tryz.ntmps61
  go_wp2_with fail
  (with_reducible refine (lbegin_any _).mono ?_)
  rintro e w1 ⟨rfl, hb⟩
  have X1 := Lib.hid (HX.out.below hb)
  have B1 := Lib.hid (HB.out.trans (hb.mono HB.out.size))
  have x0 := X1.out.at_ 0
  have x1 := X1.out.at_ 1
  have x2 := X1.out.at_ 2
  have x3 := X1.out.at_ 3
  have f0 := X1.out.free 0
  have f1 := X1.out.free 1
  have f2 := X1.out.free 2
  have f3 := X1.out.free 3
  clear hb HX HB
  go_wp2
  have X4 := Lib.hid (X1.out.put4 (.int .i64 1) (.int .i64 0) (.int .i64 0) .nilIface)
  refine bodyPost_ret (results_cell_row (P := Tryz.prog) Tryz.results61 _ _ w.heap.size 138 _ (0, 0) _ rfl X4.out Tryz.underlying138 rfl (by kernel_rfl)) rfl ?_
  refine ⟨rfl, ?_⟩
  exact (((B1.out.setCell (Nat.le_refl _) _).setCell (Nat.le_refl _) _).setCell (Nat.le_refl _) _).setCell (Nat.le_refl _) _

/-- What Push and Pop give: a machine at its first line. -/
def VNew (V : World → Nat → Fra × Option Fra → Option Nat → Prop) (ty : TypeId) (f : Fra) (w : World) (e : Ending) (w' : World) : Prop :=
  ∃ b : Nat, e = .returned (.iface ty (.pointer (some ⟨b, 0, none⟩))) ∧ V w' b (f, none) none ∧ w.heap.size ≤ b ∧ Below w.heap.size w w'
abbrev fraLP (a l v : Int) : Fra := ⟨5, 1, 0, 0, 0, 0, a, l, v, 0, 0, 0, 0, 0, 0, 0, 0, .slice none 0 0⟩
abbrev fraLQ (a : Int) : Fra := ⟨6, 1, 0, 0, 0, 0, a, 0, 0, 0, 0, 0, 0, 0, 0, 0, 0, .slice none 0 0⟩
set_option maxHeartbeats 2000000 in
theorem lvPush_any (a l v : Int) (w : World) : Calls Tryz.prog 25 #[.int .i64 a, .int .i64 l, .int .i64 v] w (VNew V5 134 (fraLP a l v) w) := by
  go_enter Tryz.func25, Tryz.ntmps25
  go_wp2_with fail
  (with_reducible refine (around_any _).mono ?_)
  rintro e w1 ⟨rfl, hb⟩
  have HB := Lib.hid hb
  clear hb
  go_wp2
  go_ret
  exact ⟨w1.heap.size, rfl, ⟨.nilIface, ⟨rfl, rfl⟩, ⟨Blk.made w1 _ _, by decide, by decide, by decide, by decide⟩, rfl, .inl ⟨rfl, fun y hy => by cases hy⟩⟩, HB.out.size, HB.out.trans ((below_one w1 _).mono HB.out.size)⟩
set_option maxHeartbeats 2000000 in
theorem lvPop_any (a : Int) (w : World) : Calls Tryz.prog 27 #[.int .i64 a] w (VNew V6 144 (fraLQ a) w) := by
  go_enter Tryz.func27, Tryz.ntmps27
  go_wp2_with fail
  (with_reducible refine (around_any _).mono ?_)
  rintro e w1 ⟨rfl, hb⟩
  have HB := Lib.hid hb
  clear hb
  go_wp2
  go_ret
  exact ⟨w1.heap.size, rfl, ⟨.nilIface, ⟨rfl, rfl⟩, ⟨Blk.made w1 _ _, by decide, by decide, by decide, by decide⟩, rfl, .inl ⟨rfl, rfl⟩⟩, HB.out.size, HB.out.trans ((below_one w1 _).mono HB.out.size)⟩
/-- Its methods. -/
theorem meth_step_lvpusher (q : Nat) (w : World) : (method 379 134 (.pointer (some ⟨q, 0, none⟩)) "Step").run Tryz.prog w = .ok (193, .pointer (some ⟨q, 0, none⟩)) w := by kernel_rfl
theorem ahead_step_lvpusher (q : Nat) (w : World) : (nilAhead 379 134 (.pointer (some ⟨q, 0, none⟩)) "Step").run Tryz.prog w = .ok (some false) w := by kernel_rfl
theorem meth_result_lvpusher (q : Nat) (w : World) : (method 379 134 (.pointer (some ⟨q, 0, none⟩)) "Result").run Tryz.prog w = .ok (192, .pointer (some ⟨q, 0, none⟩)) w := by kernel_rfl
theorem ahead_result_lvpusher (q : Nat) (w : World) : (nilAhead 379 134 (.pointer (some ⟨q, 0, none⟩)) "Result").run Tryz.prog w = .ok (some false) w := by kernel_rfl
/-- Its methods. -/
theorem meth_step_lvpopper (q : Nat) (w : World) : (method 379 144 (.pointer (some ⟨q, 0, none⟩)) "Step").run Tryz.prog w = .ok (211, .pointer (some ⟨q, 0, none⟩)) w := by kernel_rfl
theorem ahead_step_lvpopper (q : Nat) (w : World) : (nilAhead 379 144 (.pointer (some ⟨q, 0, none⟩)) "Step").run Tryz.prog w = .ok (some false) w := by kernel_rfl
theorem meth_result_lvpopper (q : Nat) (w : World) : (method 379 144 (.pointer (some ⟨q, 0, none⟩)) "Result").run Tryz.prog w = .ok (192, .pointer (some ⟨q, 0, none⟩)) w := by kernel_rfl
theorem ahead_result_lvpopper (q : Nat) (w : World) : (nilAhead 379 144 (.pointer (some ⟨q, 0, none⟩)) "Result").run Tryz.prog w = .ok (some false) w := by kernel_rfl
end Go.Proofs.YtheimjcgpbmecaaGreat

namespace Go.Proofs.YtheimjcgpbmecaaGreat
open Go Go.RowKit
set_option linter.unusedSimpArgs false

theorem lvK_U : KeepsU lvK := by
  intro s f hs hf
  unfold lvK
  split
  · exact push_U s f hs hf
  split
  · exact pop_U s f hs hf
  split
  · exact set_U s f hs hf
  · exact clear_U s f hs hf
/-- Every word of a machine is one. -/
def XU (x : Fra × Option Fra) : Prop := x.1.U ∧ ∀ y, x.2 = some y → y.U
theorem lvChild_U (c : Cfg) (f : Fra) : (lvChild c f).U := by
  unfold lvChild
  split
  · split <;> exact ⟨uw_zero, uw_zero, uw_zero, uw_zero⟩
  · split <;> exact ⟨uw_zero, uw_zero, uw_zero, uw_zero⟩
theorem lvBack_U (f : Fra) (cd vl : Int) (h : f.U) : (lvBack f cd vl).1.U := by
  unfold lvBack
  split
  · split <;> exact h
  split
  · exact h
  split <;> exact h
theorem lvS_U {c : Cfg} {s : St} {x : Fra × Option Fra} (hs : s.U) (hx : XU x) : (lvS c s x).1.U ∧ XU (lvS c s x).2.1 := by
  obtain ⟨f, o⟩ := x
  obtain ⟨hf, ho⟩ := hx
  have hy : (o.getD (lvChild c f)).U := by
    cases o with
    | none => exact lvChild_U c f
    | some y => exact ho y rfl
  have hk := lvK_U s _ hs hy
  unfold lvS
  split
  · split
    · exact ⟨go_U hs _ _ _ (fun x hx => hx), ⟨hs _, hf.2⟩, fun y hy => by cases hy⟩
    · exact ⟨go_U hs _ _ _ (fun x hx => hx), ⟨hs _, hf.2⟩, fun y hy => by cases hy⟩
  · split
    · exact ⟨hk.1, lvBack_U _ _ _ hf, fun y hy => by cases hy⟩
    · exact ⟨hk.1, hf, fun y hy => by cases hy; exact hk.2⟩
/-- The result of a step that is not the last one. -/
theorem lvS_none {c : Cfg} {s : St} {x : Fra × Option Fra} (h : (lvS c s x).2.2.dn = false) : (lvS c s x).2.2 = .none := by
  revert h
  unfold lvS
  split
  · split
    · intro h; cases h
    · intro _; rfl
  · split
    · unfold lvBack
      split
      · split
        · intro h; cases h
        · intro _; rfl
      split
      · intro _; rfl
      split
      · intro h; cases h
      · intro _; rfl
    · intro _; rfl
end Go.Proofs.YtheimjcgpbmecaaGreat

namespace Go.Proofs.YtheimjcgpbmecaaGreat
open Go Go.RowKit Go.Shelf
set_option linter.unusedSimpArgs false
set_option linter.unusedVariables false

/-- What Alone gives. -/
def AlonedV (w : World) (p m k g cap : Nat) (s' : St) (t d : Int) (hd : List Value) (rv ev : Value) (b : Nat) (r : Res) (N : Nat) (e : Ending) (w' : World) : Prop :=
  e = .returned (.tuple #[.int .i64 r.cd, .int .i64 r.vl, .int .i64 N]) ∧ PE w' p m k g cap s' t d hd rv ev ∧ Fr [m, g, b] w w'
/-- What its loop keeps. -/
def AloVR (V : World → Nat → Fra × Option Fra → Option Nat → Prop) (c : Cfg) (w : World) (p m k g cap : Nat) (s' : St) (t d : Int) (hd : List Value) (rv ev : Value) (b : Nat) (r : Res) (N : Nat) (v : Value) (wr : World) : Prop :=
  ∃ (j : Nat) (s : St) (x : Fra × Option Fra) (i : Option Nat) (M : Nat), v = .int .i64 j ∧ PE wr p m k g cap s t d hd rv ev ∧ V wr b x i ∧ s.U ∧ XU x ∧ RunM (lvS c) s x s' r M ∧ M + j = N ∧ (∀ q, i = some q → w.heap.size ≤ q) ∧ Fr [m, g, b] w wr
theorem AloVR.fr {w wr w' : World} {m g b : Nat} {i : Option Nat} (hf : Fr [m, g, b] w wr) (hi : ∀ q, i = some q → w.heap.size ≤ q) (h : Fr (m :: g :: b :: i.toList) wr w') : Fr [m, g, b] w w' := by
  refine Fr.drop hf h (fun y hy => ?_)
  simp only [List.mem_cons, Option.mem_toList] at hy
  rcases hy with rfl | rfl | rfl | hy
  · exact .inl (by simp)
  · exact .inl (by simp)
  · exact .inl (by simp)
  · exact .inr (hi y hy)
set_option maxRecDepth 100000 in
set_option maxHeartbeats 4000000 in
theorem alone_lvpusher {w : World} {p m k g cap : Nat} {s s' : St} {t d : Int} {hd : List Value} {rv ev : Value} {c : Cfg} {b : Nat} {x : Fra × Option Fra} {r : Res} {N most : Nat} (hp : PE w p m k g cap s t d hd rv ev) (hl : LayHd hd c) (hin : CfgIn c) (hv : V5 w b x none) (hu : s.U) (hx : XU x) (hr : RunM (lvS c) s x s' r N) (hN : N ≤ most) (hm : most ≤ 1000) :
    Calls Tryz.prog 58 #[.pointer (some ⟨p, 0, none⟩), .iface 134 (.pointer (some ⟨b, 0, none⟩)), .int .i64 most] w (AlonedV w p m k g cap s' t d hd rv ev b r N) := by
  have HST := Lib.hid (show AloVR V5 c w p m k g cap s' t d hd rv ev b r N (.int .i64 0) w from ⟨0, s, x, none, N, rfl, hp, hv, hu, hx, hr, rfl, (fun q hq => by cases hq), Fr.refl _ _⟩)
  clear hp hv hu hx hr
  have HM := Lib.hid (And.intro hN hm)
  have km := meth_step_lvpusher b
  have ka := ahead_step_lvpusher b
  have kr := meth_result_lvpusher b
  have kb := ahead_result_lvpusher b
  go_enter Tryz.func58, Tryz.ntmps58
  go_wp2_with fail
  go_loopw [8] (fun i wr => AloVR V5 c w p m k g cap s' t d hd rv ev b r N i wr) (fun i _ => most - (intOf i).toNat)
  case atStart => exact HST.out
  case round =>
    clear HST
    obtain ⟨j, s, ⟨f, o⟩, i, M, rfl, hp, hv, hu, hx, hr, hM, hi, hf⟩ := hrel
    have hj : j < most := by
      have h1 : 1 ≤ M := by cases hr <;> omega
      have := HM.out.1
      omega
    have ej : wrap64 ((j : Int) + 1) = ((j + 1 : Nat) : Int) := by have := HM.out; unfold wrap64; omega
    have hlt : (j : Int) < (most : Int) := by omega
    have HS := Lib.hid (lvpusher_any hp hl hin hu hv)
    have HF := Lib.hid (And.intro hf hi)
    have HU := Lib.hid (lvS_U (c := c) hu hx)
    have HR := Lib.hid (And.intro hr hM)
    have HJ := Lib.hid hj
    clear hp hv hu hx hr hM hi hf hj
    obtain ⟨y, hy⟩ : ∃ y, lvS c s (f, o) = y := ⟨_, rfl⟩
    have HY := Lib.hid hy
    rw [hy] at HS HU
    clear hy
    cases hdn : y.2.2.dn with
    | true =>
      go_wp2_with fail
      (with_reducible refine HS.out.mono ?_)
      rintro e w1 ⟨rfl, hp1, hd1, _, hf1⟩
      obtain ⟨post, f', hb1, _⟩ := hd1 hdn
      have B1 := Lib.hid hb1
      have P1 := Lib.hid hp1
      have F1 := Lib.hid (AloVR.fr HF.out.1 HF.out.2 hf1)
      have HDN := Lib.hid hdn
      rw [hdn]
      clear hb1 hp1 hf1 hd1 hdn
      go_wp2_with fail
      (with_reducible refine (lresult_any B1.out).mono ?_)
      rintro e w2 ⟨rfl, nd, rfl⟩
      go_wp2_with fail
      go_ret3
      have hr := HR.out.1
      cases hr with
      | last _ =>
        have hN := HR.out.2
        have e1 : (j : Int) + 1 = (N : Int) := by omega
        have hP := P1.out.drewN nd
        have ey := HY.out
        rw [ey]
        refine ⟨?_, hP, F1.out.drewN nd⟩
        show Ending.returned (.tuple #[.int .i64 y.2.2.cd, .int .i64 y.2.2.vl, .int .i64 ((j : Int) + 1)]) = _
        rw [e1]
      | cons h _ =>
        exfalso
        have h2 := HDN.out
        rw [HY.out] at h
        rw [h] at h2
        cases h2
    | false =>
      go_wp2_with fail
      (with_reducible refine HS.out.mono ?_)
      rintro e w1 ⟨rfl, hp1, _, hn1, hf1⟩
      obtain ⟨i', hv1, hi1⟩ := hn1 hdn
      have P1 := Lib.hid hp1
      have F1 := Lib.hid (AloVR.fr HF.out.1 HF.out.2 hf1)
      have HDN := Lib.hid hdn
      have HV := Lib.hid (And.intro hv1 hi1)
      rw [hdn]
      clear hp1 hf1 hn1 hv1 hi1 hdn
      go_wp2_with fail
      go_roundw
      case rel =>
        have hr := HR.out.1
        cases hr with
        | last h =>
          exfalso
          have h2 := HDN.out
          rw [HY.out] at h
          rw [h] at h2
          cases h2
        | cons h h3 =>
          rw [HY.out] at h3
          refine ⟨j + 1, y.1, y.2.1, i', _, by go_num, P1.out, HV.out.1, HU.out.1, HU.out.2, h3, ?_, ?_, F1.out⟩
          · have := HR.out.2
            omega
          · rcases HV.out.2 with e | e
            · rw [e]
              exact HF.out.2
            · intro q hq
              have := HF.out.1.size
              have := e q hq
              omega
      case measure => simp [intOf]; have := HJ.out; omega
set_option maxRecDepth 100000 in
set_option maxHeartbeats 4000000 in
theorem alone_lvpopper {w : World} {p m k g cap : Nat} {s s' : St} {t d : Int} {hd : List Value} {rv ev : Value} {c : Cfg} {b : Nat} {x : Fra × Option Fra} {r : Res} {N most : Nat} (hp : PE w p m k g cap s t d hd rv ev) (hl : LayHd hd c) (hin : CfgIn c) (hv : V6 w b x none) (hu : s.U) (hx : XU x) (hr : RunM (lvS c) s x s' r N) (hN : N ≤ most) (hm : most ≤ 1000) :
    Calls Tryz.prog 58 #[.pointer (some ⟨p, 0, none⟩), .iface 144 (.pointer (some ⟨b, 0, none⟩)), .int .i64 most] w (AlonedV w p m k g cap s' t d hd rv ev b r N) := by
  have HST := Lib.hid (show AloVR V6 c w p m k g cap s' t d hd rv ev b r N (.int .i64 0) w from ⟨0, s, x, none, N, rfl, hp, hv, hu, hx, hr, rfl, (fun q hq => by cases hq), Fr.refl _ _⟩)
  clear hp hv hu hx hr
  have HM := Lib.hid (And.intro hN hm)
  have km := meth_step_lvpopper b
  have ka := ahead_step_lvpopper b
  have kr := meth_result_lvpopper b
  have kb := ahead_result_lvpopper b
  go_enter Tryz.func58, Tryz.ntmps58
  go_wp2_with fail
  go_loopw [8] (fun i wr => AloVR V6 c w p m k g cap s' t d hd rv ev b r N i wr) (fun i _ => most - (intOf i).toNat)
  case atStart => exact HST.out
  case round =>
    clear HST
    obtain ⟨j, s, ⟨f, o⟩, i, M, rfl, hp, hv, hu, hx, hr, hM, hi, hf⟩ := hrel
    have hj : j < most := by
      have h1 : 1 ≤ M := by cases hr <;> omega
      have := HM.out.1
      omega
    have ej : wrap64 ((j : Int) + 1) = ((j + 1 : Nat) : Int) := by have := HM.out; unfold wrap64; omega
    have hlt : (j : Int) < (most : Int) := by omega
    have HS := Lib.hid (lvpopper_any hp hl hin hu hv)
    have HF := Lib.hid (And.intro hf hi)
    have HU := Lib.hid (lvS_U (c := c) hu hx)
    have HR := Lib.hid (And.intro hr hM)
    have HJ := Lib.hid hj
    clear hp hv hu hx hr hM hi hf hj
    obtain ⟨y, hy⟩ : ∃ y, lvS c s (f, o) = y := ⟨_, rfl⟩
    have HY := Lib.hid hy
    rw [hy] at HS HU
    clear hy
    cases hdn : y.2.2.dn with
    | true =>
      go_wp2_with fail
      (with_reducible refine HS.out.mono ?_)
      rintro e w1 ⟨rfl, hp1, hd1, _, hf1⟩
      obtain ⟨post, f', hb1, _⟩ := hd1 hdn
      have B1 := Lib.hid hb1
      have P1 := Lib.hid hp1
      have F1 := Lib.hid (AloVR.fr HF.out.1 HF.out.2 hf1)
      have HDN := Lib.hid hdn
      rw [hdn]
      clear hb1 hp1 hf1 hd1 hdn
      go_wp2_with fail
      (with_reducible refine (lresult_any B1.out).mono ?_)
      rintro e w2 ⟨rfl, nd, rfl⟩
      go_wp2_with fail
      go_ret3
      have hr := HR.out.1
      cases hr with
      | last _ =>
        have hN := HR.out.2
        have e1 : (j : Int) + 1 = (N : Int) := by omega
        have hP := P1.out.drewN nd
        have ey := HY.out
        rw [ey]
        refine ⟨?_, hP, F1.out.drewN nd⟩
        show Ending.returned (.tuple #[.int .i64 y.2.2.cd, .int .i64 y.2.2.vl, .int .i64 ((j : Int) + 1)]) = _
        rw [e1]
      | cons h _ =>
        exfalso
        have h2 := HDN.out
        rw [HY.out] at h
        rw [h] at h2
        cases h2
    | false =>
      go_wp2_with fail
      (with_reducible refine HS.out.mono ?_)
      rintro e w1 ⟨rfl, hp1, _, hn1, hf1⟩
      obtain ⟨i', hv1, hi1⟩ := hn1 hdn
      have P1 := Lib.hid hp1
      have F1 := Lib.hid (AloVR.fr HF.out.1 HF.out.2 hf1)
      have HDN := Lib.hid hdn
      have HV := Lib.hid (And.intro hv1 hi1)
      rw [hdn]
      clear hp1 hf1 hn1 hv1 hi1 hdn
      go_wp2_with fail
      go_roundw
      case rel =>
        have hr := HR.out.1
        cases hr with
        | last h =>
          exfalso
          have h2 := HDN.out
          rw [HY.out] at h
          rw [h] at h2
          cases h2
        | cons h h3 =>
          rw [HY.out] at h3
          refine ⟨j + 1, y.1, y.2.1, i', _, by go_num, P1.out, HV.out.1, HU.out.1, HU.out.2, h3, ?_, ?_, F1.out⟩
          · have := HR.out.2
            omega
          · rcases HV.out.2 with e | e
            · rw [e]
              exact HF.out.2
            · intro q hq
              have := HF.out.1.size
              have := e q hq
              omega
      case measure => simp [intOf]; have := HJ.out; omega
end Go.Proofs.YtheimjcgpbmecaaGreat
