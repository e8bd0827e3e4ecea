/-
  Pure: a step of a machine of levels keeps words what they are. No function is named.
  workstealmatch.Alone of the machines of levels. (Written by wip/gen_lvl.py.)
-/
import Derived.Test.YtgipddeldddbnaaGreatMgBB
import Derived.Test.YtgipddeldddbnaaGreatMgBE
import Derived.LoopTactic
import Derived.OwnWalk
namespace Go.Proofs.YtgipddeldddbnaaGreat
open Go Go.RowKit
set_option linter.unusedSimpArgs false

theorem lvK_U : KeepsU lvK := by
  intro s f hs hf
  unfold lvK
  split
  · exact push_U s f hs hf
  split
  · exact pop_U s f hs hf
  split
  · exact set_U s f hs hf
  · exact clear_U s f hs hf
/-- Every word of a machine is one. -/
def XU (x : Fra × Option Fra) : Prop := x.1.U ∧ ∀ y, x.2 = some y → y.U
theorem lvChild_U (c : Cfg) (f : Fra) : (lvChild c f).U := by
  unfold lvChild
  split
  · split <;> exact ⟨uw_zero, uw_zero, uw_zero, uw_zero⟩
  · split <;> exact ⟨uw_zero, uw_zero, uw_zero, uw_zero⟩
theorem lvBack_U (f : Fra) (cd vl : Int) (h : f.U) : (lvBack f cd vl).1.U := by
  unfold lvBack
  split
  · split <;> exact h
  split
  · exact h
  split <;> exact h
theorem lvS_U {c : Cfg} {s : St} {x : Fra × Option Fra} (hs : s.U) (hx : XU x) : (lvS c s x).1.U ∧ XU (lvS c s x).2.1 := by
  obtain ⟨f, o⟩ := x
  obtain ⟨hf, ho⟩ := hx
  have hy : (o.getD (lvChild c f)).U := by
    cases o with
    | none => exact lvChild_U c f
    | some y => exact ho y rfl
  have hk := lvK_U s _ hs hy
  unfold lvS
  split
  · split
    · exact ⟨go_U hs _ _ _ (fun x hx => hx), ⟨hs _, hf.2⟩, fun y hy => by cases hy⟩
    · exact ⟨go_U hs _ _ _ (fun x hx => hx), ⟨hs _, hf.2⟩, fun y hy => by cases hy⟩
  · split
    · exact ⟨hk.1, lvBack_U _ _ _ hf, fun y hy => by cases hy⟩
    · exact ⟨hk.1, hf, fun y hy => by cases hy; exact hk.2⟩
/-- The result of a step that is not the last one. -/
theorem lvS_none {c : Cfg} {s : St} {x : Fra × Option Fra} (h : (lvS c s x).2.2.dn = false) : (lvS c s x).2.2 = .none := by
  revert h
  unfold lvS
  split
  · split
    · intro h; cases h
    · intro _; rfl
  · split
    · unfold lvBack
      split
      · split
        · intro h; cases h
        · intro _; rfl
      split
      · intro _; rfl
      split
      · intro h; cases h
      · intro _; rfl
    · intro _; rfl
end Go.Proofs.YtgipddeldddbnaaGreat

namespace Go.Proofs.YtgipddeldddbnaaGreat
open Go Go.RowKit Go.Shelf
set_option linter.unusedSimpArgs false
set_option linter.unusedVariables false

/-- What Alone gives. -/
def AlonedV (w : World) (p m k g cap : Nat) (s' : St) (t d : Int) (hd : List Value) (rv ev : Value) (b : Nat) (r : Res) (N : Nat) (e : Ending) (w' : World) : Prop :=
  e = .returned (.tuple #[.int .i64 r.cd, .int .i64 r.vl, .int .i64 N]) ∧ PE w' p m k g cap s' t d hd rv ev ∧ Fr [m, g, b] w w'
/-- What its loop keeps. -/
def AloVR (V : World → Nat → Fra × Option Fra → Option Nat → Prop) (c : Cfg) (w : World) (p m k g cap : Nat) (s' : St) (t d : Int) (hd : List Value) (rv ev : Value) (b : Nat) (r : Res) (N : Nat) (v : Value) (wr : World) : Prop :=
  ∃ (j : Nat) (s : St) (x : Fra × Option Fra) (i : Option Nat) (M : Nat), v = .int .i64 j ∧ PE wr p m k g cap s t d hd rv ev ∧ V wr b x i ∧ s.U ∧ XU x ∧ RunM (lvS c) s x s' r M ∧ M + j = N ∧ (∀ q, i = some q → w.heap.size ≤ q) ∧ Fr [m, g, b] w wr
theorem AloVR.fr {w wr w' : World} {m g b : Nat} {i : Option Nat} (hf : Fr [m, g, b] w wr) (hi : ∀ q, i = some q → w.heap.size ≤ q) (h : Fr (m :: g :: b :: i.toList) wr w') : Fr [m, g, b] w w' := by
  refine Fr.drop hf h (fun y hy => ?_)
  simp only [List.mem_cons, Option.mem_toList] at hy
  rcases hy with rfl | rfl | rfl | hy
  · exact .inl (by simp)
  · exact .inl (by simp)
  · exact .inl (by simp)
  · exact .inr (hi y hy)
set_option maxRecDepth 100000 in
set_option maxHeartbeats 4000000 in
theorem alone_lvpusher {w : World} {p m k g cap : Nat} {s s' : St} {t d : Int} {hd : List Value} {rv ev : Value} {c : Cfg} {b : Nat} {x : Fra × Option Fra} {r : Res} {N most : Nat} (hp : PE w p m k g cap s t d hd rv ev) (hl : LayHd hd c) (hin : CfgIn c) (hv : V5 w b x none) (hu : s.U) (hx : XU x) (hr : RunM (lvS c) s x s' r N) (hN : N ≤ most) (hm : most ≤ 1000) :
    Calls Tryz.prog 8 #[.pointer (some ⟨p, 0, none⟩), .iface 147 (.pointer (some ⟨b, 0, none⟩)), .int .i64 most] w (AlonedV w p m k g cap s' t d hd rv ev b r N) := by
  have HST := Lib.hid (show AloVR V5 c w p m k g cap s' t d hd rv ev b r N (.int .i64 0) w from ⟨0, s, x, none, N, rfl, hp, hv, hu, hx, hr, rfl, (fun q hq => by cases hq), Fr.refl _ _⟩)
  clear hp hv hu hx hr
  have HM := Lib.hid (And.intro hN hm)
  have km := meth_step_lvpusher b
  have ka := ahead_step_lvpusher b
  have kr := meth_result_lvpusher b
  have kb := ahead_result_lvpusher b
  go_enter Tryz.func8, Tryz.ntmps8
  go_wp2_with fail
  go_loopw [8] (fun i wr => AloVR V5 c w p m k g cap s' t d hd rv ev b r N i wr) (fun i _ => most - (intOf i).toNat)
  case atStart => exact HST.out
  case round =>
    clear HST
    obtain ⟨j, s, ⟨f, o⟩, i, M, rfl, hp, hv, hu, hx, hr, hM, hi, hf⟩ := hrel
    have hj : j < most := by
      have h1 : 1 ≤ M := by cases hr <;> omega
      have := HM.out.1
      omega
    have ej : wrap64 ((j : Int) + 1) = ((j + 1 : Nat) : Int) := by have := HM.out; unfold wrap64; omega
    have hlt : (j : Int) < (most : Int) := by omega
    have HS := Lib.hid (lvpusher_any hp hl hin hu hv)
    have HF := Lib.hid (And.intro hf hi)
    have HU := Lib.hid (lvS_U (c := c) hu hx)
    have HR := Lib.hid (And.intro hr hM)
    have HJ := Lib.hid hj
    clear hp hv hu hx hr hM hi hf hj
    obtain ⟨y, hy⟩ : ∃ y, lvS c s (f, o) = y := ⟨_, rfl⟩
    have HY := Lib.hid hy
    rw [hy] at HS HU
    clear hy
    cases hdn : y.2.2.dn with
    | true =>
      go_wp2_with fail
      (with_reducible refine HS.out.mono ?_)
      rintro e w1 ⟨rfl, hp1, hd1, _, hf1⟩
      obtain ⟨post, f', hb1, _⟩ := hd1 hdn
      have B1 := Lib.hid hb1
      have P1 := Lib.hid hp1
      have F1 := Lib.hid (AloVR.fr HF.out.1 HF.out.2 hf1)
      have HDN := Lib.hid hdn
      rw [hdn]
      clear hb1 hp1 hf1 hd1 hdn
      go_wp2_with fail
      (with_reducible refine (lresult_any B1.out).mono ?_)
      rintro e w2 ⟨rfl, nd, rfl⟩
      go_wp2_with fail
      go_ret3
      have hr := HR.out.1
      cases hr with
      | last _ =>
        have hN := HR.out.2
        have e1 : (j : Int) + 1 = (N : Int) := by omega
        have hP := P1.out.drewN nd
        have ey := HY.out
        rw [ey]
        refine ⟨?_, hP, F1.out.drewN nd⟩
        show Ending.returned (.tuple #[.int .i64 y.2.2.cd, .int .i64 y.2.2.vl, .int .i64 ((j : Int) + 1)]) = _
        rw [e1]
      | cons h _ =>
        exfalso
        have h2 := HDN.out
        rw [HY.out] at h
        rw [h] at h2
        cases h2
    | false =>
      go_wp2_with fail
      (with_reducible refine HS.out.mono ?_)
      rintro e w1 ⟨rfl, hp1, _, hn1, hf1⟩
      obtain ⟨i', hv1, hi1⟩ := hn1 hdn
      have P1 := Lib.hid hp1
      have F1 := Lib.hid (AloVR.fr HF.out.1 HF.out.2 hf1)
      have HDN := Lib.hid hdn
      have HV := Lib.hid (And.intro hv1 hi1)
      rw [hdn]
      clear hp1 hf1 hn1 hv1 hi1 hdn
      go_wp2_with fail
      go_roundw
      case rel =>
        have hr := HR.out.1
        cases hr with
        | last h =>
          exfalso
          have h2 := HDN.out
          rw [HY.out] at h
          rw [h] at h2
          cases h2
        | cons h h3 =>
          rw [HY.out] at h3
          refine ⟨j + 1, y.1, y.2.1, i', _, by go_num, P1.out, HV.out.1, HU.out.1, HU.out.2, h3, ?_, ?_, F1.out⟩
          · have := HR.out.2
            omega
          · rcases HV.out.2 with e | e
            · rw [e]
              exact HF.out.2
            · intro q hq
              have := HF.out.1.size
              have := e q hq
              omega
      case measure => simp [intOf]; have := HJ.out; omega
end Go.Proofs.YtgipddeldddbnaaGreat
