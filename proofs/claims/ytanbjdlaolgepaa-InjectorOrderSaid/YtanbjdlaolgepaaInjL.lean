/-
  workstealmatch.Alone of the machines of package injector. (Written by wip/gen_inj.py.)
-/
import Derived.Test.YtanbjdlaolgepaaMgAU
import Derived.Test.YtanbjdlaolgepaaInjS
import Derived.Test.YtanbjdlaolgepaaInjT
import Derived.LoopTactic
import Derived.OwnWalk
namespace Go.Proofs.Ytanbjdlaolgepaa
open Go Go.RowKit Go.Shelf
set_option linter.unusedSimpArgs false
set_option linter.unusedVariables false


/-- What Alone gives. -/
def AlonedE (B : Nat) (w : World) (p m k g cap : Nat) (s' : St) (t d : Int) (hd : List Value) (rv ev : Value) (es' : List Ev) (q : Nat) (r : Res) (N : Nat) (e : Ending) (w' : World) : Prop :=
  ∃ ev', e = .returned (.tuple #[.int .i64 r.cd, .int .i64 r.vl, .int .i64 N]) ∧ PE w' p m k g cap s' t d hd rv ev' ∧ OwnE w' B ev' es' ∧ (∀ x, ev'.ownBlock = some x → ev.ownBlock = some x ∨ w.heap.size ≤ x) ∧ Fr (p :: m :: g :: q :: ev.ownBlock.toList) w w'
/-- What its loop keeps. -/
def AloER (stp : St → List Ev → Fra → St × List Ev × Fra × Res) (ok : Fra → Prop) (ty : TypeId) (post : Fra → List Value) (B : Nat) (w : World) (p m k g cap : Nat) (s' : St) (t d : Int) (hd : List Value) (rv ev : Value) (E : Nat) (es' : List Ev) (q : Nat) (r : Res) (N : Nat) (v : Value) (wr : World) : Prop :=
  ∃ (j : Nat) (s : St) (es : List Ev) (f : Fra) (ev1 : Value) (M : Nat), v = .int .i64 j ∧ PE wr p m k g cap s t d hd rv ev1 ∧ OwnE wr B ev1 es ∧ (∀ x, ev1.ownBlock = some x → ev.ownBlock = some x ∨ w.heap.size ≤ x) ∧ LB wr q ty (post f) f 0 0 ∧ s.U ∧ ok f ∧ es.length ≤ E + j ∧ RunE stp s es f s' es' r M ∧ M + j = N ∧ Fr (p :: m :: g :: q :: ev.ownBlock.toList) w wr
theorem fr_evs {w wr w' : World} {p m g q : Nat} {ev ev1 : Value} (hf : Fr (p :: m :: g :: q :: ev.ownBlock.toList) w wr) (hi : ∀ x, ev1.ownBlock = some x → ev.ownBlock = some x ∨ w.heap.size ≤ x) (h : Fr (p :: m :: g :: q :: ev1.ownBlock.toList) wr w') : Fr (p :: m :: g :: q :: ev.ownBlock.toList) w w' := by
  refine Fr.drop hf h (fun y hy => ?_)
  simp only [List.mem_cons, Option.mem_toList] at hy
  rcases hy with rfl | rfl | rfl | rfl | hy
  · exact .inl (by simp)
  · exact .inl (by simp)
  · exact .inl (by simp)
  · exact .inl (by simp)
  · rcases hi y hy with e | e
    · exact .inl (by simp [e])
    · exact .inr e
theorem rem_es (c : Cfg) (s : St) (es : List Ev) (f : Fra) : (removeS c s es f).2.1.length ≤ es.length + 1 := by
  unfold removeS
  repeat' split
  all_goals simp

set_option maxRecDepth 100000 in
set_option maxHeartbeats 4000000 in
theorem alone_inserter {w : World} {p m k g cap : Nat} {s s' : St} {t d : Int} {hd : List Value} {rv ev : Value} {c : Cfg} {q B : Nat} {f : Fra} {es es' : List Ev} {r : Res} {N most : Nat} (hin : CfgIn c) (hp : PE w p m k g cap s t d hd rv ev) (hl : LayHd hd c) (h : LB w q 83 (ipost f) f 0 0) (hev : OwnE w B ev es) (hB0 : B ≤ w.heap.size) (hE : es.length ≤ 800000) (hu : s.U) (ho : InsOk f) (hr : RunE (insE c) s es f s' es' r N) (hN : N ≤ most) (hm : most ≤ 1000) :
    Calls Try.prog 8 #[.pointer (some ⟨p, 0, none⟩), .iface 76 (.pointer (some ⟨q, 0, none⟩)), .int .i64 most] w (AlonedE B w p m k g cap s' t d hd rv ev es' q r N) := by
  obtain ⟨E, hEE⟩ : ∃ E, es.length = E := ⟨_, rfl⟩
  rw [hEE] at hE
  have HST := Lib.hid (show AloER (insE c) InsOk 83 ipost B w p m k g cap s' t d hd rv ev E es' q r N (.int .i64 0) w from ⟨0, s, es, f, ev, N, rfl, hp, hev, fun x hx => .inl hx, h, hu, ho, by omega, hr, rfl, Fr.refl _ _⟩)
  clear hp hu ho hr h hev hEE
  have HM := Lib.hid (And.intro hN (And.intro hm hE))
  have HL := Lib.hid hl
  have HIN := Lib.hid hin
  have HB := Lib.hid hB0
  clear hl hin hB0 hE
  have km := meth_step_inserter q
  have ka := ahead_step_inserter q
  have kr := meth_result_inserter q
  have kb := ahead_result_inserter q
  go_enter Try.func8, Try.ntmps8
  go_wp2_with fail
  go_loopw [8] (fun i wr => AloER (insE c) InsOk 83 ipost B w p m k g cap s' t d hd rv ev E es' q r N i wr) (fun i _ => most - (intOf i).toNat)
  case atStart => exact HST.out
  case round =>
    clear HST
    obtain ⟨j, s, es, f, ev1, M, rfl, hp, hev, hat, h, hu, ho, hes, hr, hM, hf⟩ := hrel
    have hj : j < most := by
      have h1 : 1 ≤ M := hr.one
      have := HM.out.1
      omega
    have ej : wrap64 ((j : Int) + 1) = ((j + 1 : Nat) : Int) := by have := HM.out; unfold wrap64; omega
    have hlt : (j : Int) < (most : Int) := by omega
    have hEE := HM.out
    have hl := HL.out
    have hin := HIN.out
    have hB0 := HB.out
    have HS : Hid (Calls Try.prog 73 #[.pointer (some ⟨q, 0, none⟩), .pointer (some ⟨p, 0, none⟩)] wr (IStep B wr p m k g cap ((insE c) s es f).1 t d hd rv ev1 ((insE c) s es f).2.1 q 83 ipost ((insE c) s es f).2.2.1 ((insE c) s es f).2.2.2)) := Lib.hid (inserter_any hin hp hl h hev ho)
    have HF := Lib.hid (And.intro hf hat)
    have HOK := Lib.hid (show ((insE c) s es f).2.2.2.dn = false → InsOk ((insE c) s es f).2.2.1 from ins_ok hu ho)
    have HU := Lib.hid (show ((insE c) s es f).1.U from ins_U hu ho.u)
    have HLE := Lib.hid (show ((insE c) s es f).2.1.length ≤ E + (j + 1) from by have := (show (insE c s es f).2.1.length ≤ es.length + 1 from Nat.le_succ _); omega)
    have HR := Lib.hid (And.intro hr hM)
    have HJ := Lib.hid hj
    clear hp hev hat h hu ho hes hr hM hf hj hEE hl hin hB0
    obtain ⟨y, hy⟩ : ∃ y, (insE c) s es f = y := ⟨_, rfl⟩
    have HY := Lib.hid hy
    rw [hy] at HS HU HOK HLE
    clear hy
    cases hdn : y.2.2.2.dn with
    | true =>
      go_wp2_with fail
      (with_reducible refine HS.out.mono ?_)
      rintro e w1 ⟨ev2, rfl, hp1, hv1, ha1, hd1, _, hf1⟩
      obtain ⟨f0, hb1⟩ := hd1 hdn
      have B1 := Lib.hid hb1
      have P1 := Lib.hid hp1
      have V1 := Lib.hid hv1
      have A1 := Lib.hid (show ∀ x, ev2.ownBlock = some x → ev.ownBlock = some x ∨ w.heap.size ≤ x from fun x hx => (ha1 x hx).elim (fun e => HF.out.2 x e) (fun e => .inr (Nat.le_trans HF.out.1.size e)))
      have F1 := Lib.hid (fr_evs HF.out.1 HF.out.2 hf1)
      have HDN := Lib.hid hdn
      rw [hdn]
      clear hb1 hp1 hf1 hd1 hdn hv1 ha1
      go_wp2_with fail
      (with_reducible refine (lresult_any B1.out).mono ?_)
      rintro e w2 ⟨rfl, nd, rfl⟩
      go_wp2_with fail
      go_ret3
      have hr := HR.out.1
      cases hr with
      | last _ =>
        have hN := HR.out.2
        have e1 : (j : Int) + 1 = (N : Int) := by omega
        have hP := P1.out.drewN nd
        have ey := HY.out
        rw [ey]
        refine ⟨ev2, ?_, hP, V1.out.below (below_drewN w1 nd), A1.out, F1.out.drewN nd⟩
        show Ending.returned (.tuple #[.int .i64 y.2.2.2.cd, .int .i64 y.2.2.2.vl, .int .i64 ((j : Int) + 1)]) = _
        rw [e1]
      | cons h _ =>
        exfalso
        have h2 := HDN.out
        rw [HY.out] at h
        rw [h] at h2
        cases h2
    | false =>
      go_wp2_with fail
      (with_reducible refine HS.out.mono ?_)
      rintro e w1 ⟨ev2, rfl, hp1, hv1, ha1, _, hn1, hf1⟩
      have HB1 := Lib.hid (hn1 hdn)
      have P1 := Lib.hid hp1
      have V1 := Lib.hid hv1
      have A1 := Lib.hid (show ∀ x, ev2.ownBlock = some x → ev.ownBlock = some x ∨ w.heap.size ≤ x from fun x hx => (ha1 x hx).elim (fun e => HF.out.2 x e) (fun e => .inr (Nat.le_trans HF.out.1.size e)))
      have F1 := Lib.hid (fr_evs HF.out.1 HF.out.2 hf1)
      have HDN := Lib.hid hdn
      rw [hdn]
      clear hp1 hf1 hn1 hv1 ha1 hdn
      go_wp2_with fail
      go_roundw
      case rel =>
        have hr := HR.out.1
        cases hr with
        | last h =>
          exfalso
          have h2 := HDN.out
          rw [HY.out] at h
          rw [h] at h2
          cases h2
        | cons h h3 =>
          rw [HY.out] at h3
          exact ⟨j + 1, y.1, y.2.1, y.2.2.1, ev2, _, by go_num, P1.out, V1.out, A1.out, HB1.out, HU.out, HOK.out HDN.out, HLE.out, h3, by have := HR.out.2; omega, F1.out⟩
      case measure => simp [intOf]; have := HJ.out; omega

set_option maxRecDepth 100000 in
set_option maxHeartbeats 4000000 in
theorem alone_remover {w : World} {p m k g cap : Nat} {s s' : St} {t d : Int} {hd : List Value} {rv ev : Value} {c : Cfg} {q B : Nat} {f : Fra} {es es' : List Ev} {r : Res} {N most : Nat} (hin : CfgIn c) (hp : PE w p m k g cap s t d hd rv ev) (hl : LayHd hd c) (h : LB w q 89 (rpost f) f 0 0) (hev : OwnE w B ev es) (hB0 : B ≤ w.heap.size) (hE : es.length ≤ 800000) (hu : s.U) (ho : RemOk f) (hr : RunE (removeS c) s es f s' es' r N) (hN : N ≤ most) (hm : most ≤ 1000) :
    Calls Try.prog 8 #[.pointer (some ⟨p, 0, none⟩), .iface 87 (.pointer (some ⟨q, 0, none⟩)), .int .i64 most] w (AlonedE B w p m k g cap s' t d hd rv ev es' q r N) := by
  obtain ⟨E, hEE⟩ : ∃ E, es.length = E := ⟨_, rfl⟩
  rw [hEE] at hE
  have HST := Lib.hid (show AloER (removeS c) RemOk 89 rpost B w p m k g cap s' t d hd rv ev E es' q r N (.int .i64 0) w from ⟨0, s, es, f, ev, N, rfl, hp, hev, fun x hx => .inl hx, h, hu, ho, by omega, hr, rfl, Fr.refl _ _⟩)
  clear hp hu ho hr h hev hEE
  have HM := Lib.hid (And.intro hN (And.intro hm hE))
  have HL := Lib.hid hl
  have HIN := Lib.hid hin
  have HB := Lib.hid hB0
  clear hl hin hB0 hE
  have km := meth_step_remover q
  have ka := ahead_step_remover q
  have kr := meth_result_remover q
  have kb := ahead_result_remover q
  go_enter Try.func8, Try.ntmps8
  go_wp2_with fail
  go_loopw [8] (fun i wr => AloER (removeS c) RemOk 89 rpost B w p m k g cap s' t d hd rv ev E es' q r N i wr) (fun i _ => most - (intOf i).toNat)
  case atStart => exact HST.out
  case round =>
    clear HST
    obtain ⟨j, s, es, f, ev1, M, rfl, hp, hev, hat, h, hu, ho, hes, hr, hM, hf⟩ := hrel
    have hj : j < most := by
      have h1 : 1 ≤ M := hr.one
      have := HM.out.1
      omega
    have ej : wrap64 ((j : Int) + 1) = ((j + 1 : Nat) : Int) := by have := HM.out; unfold wrap64; omega
    have hlt : (j : Int) < (most : Int) := by omega
    have hEE := HM.out
    have hl := HL.out
    have hin := HIN.out
    have hB0 := HB.out
    have HS : Hid (Calls Try.prog 96 #[.pointer (some ⟨q, 0, none⟩), .pointer (some ⟨p, 0, none⟩)] wr (IStep B wr p m k g cap ((removeS c) s es f).1 t d hd rv ev1 ((removeS c) s es f).2.1 q 89 rpost ((removeS c) s es f).2.2.1 ((removeS c) s es f).2.2.2)) := Lib.hid (remover_any hin hp hl h hev (by omega) (Nat.le_trans hB0 hf.size) ho)
    have HF := Lib.hid (And.intro hf hat)
    have HOK := Lib.hid (show ((removeS c) s es f).2.2.2.dn = false → RemOk ((removeS c) s es f).2.2.1 from rem_ok hin hu ho)
    have HU := Lib.hid (show ((removeS c) s es f).1.U from rem_U hu ho.u)
    have HLE := Lib.hid (show ((removeS c) s es f).2.1.length ≤ E + (j + 1) from by have := rem_es c s es f; omega)
    have HR := Lib.hid (And.intro hr hM)
    have HJ := Lib.hid hj
    clear hp hev hat h hu ho hes hr hM hf hj hEE hl hin hB0
    obtain ⟨y, hy⟩ : ∃ y, (removeS c) s es f = y := ⟨_, rfl⟩
    have HY := Lib.hid hy
    rw [hy] at HS HU HOK HLE
    clear hy
    cases hdn : y.2.2.2.dn with
    | true =>
      go_wp2_with fail
      (with_reducible refine HS.out.mono ?_)
      rintro e w1 ⟨ev2, rfl, hp1, hv1, ha1, hd1, _, hf1⟩
      obtain ⟨f0, hb1⟩ := hd1 hdn
      have B1 := Lib.hid hb1
      have P1 := Lib.hid hp1
      have V1 := Lib.hid hv1
      have A1 := Lib.hid (show ∀ x, ev2.ownBlock = some x → ev.ownBlock = some x ∨ w.heap.size ≤ x from fun x hx => (ha1 x hx).elim (fun e => HF.out.2 x e) (fun e => .inr (Nat.le_trans HF.out.1.size e)))
      have F1 := Lib.hid (fr_evs HF.out.1 HF.out.2 hf1)
      have HDN := Lib.hid hdn
      rw [hdn]
      clear hb1 hp1 hf1 hd1 hdn hv1 ha1
      go_wp2_with fail
      (with_reducible refine (lresult_any B1.out).mono ?_)
      rintro e w2 ⟨rfl, nd, rfl⟩
      go_wp2_with fail
      go_ret3
      have hr := HR.out.1
      cases hr with
      | last _ =>
        have hN := HR.out.2
        have e1 : (j : Int) + 1 = (N : Int) := by omega
        have hP := P1.out.drewN nd
        have ey := HY.out
        rw [ey]
        refine ⟨ev2, ?_, hP, V1.out.below (below_drewN w1 nd), A1.out, F1.out.drewN nd⟩
        show Ending.returned (.tuple #[.int .i64 y.2.2.2.cd, .int .i64 y.2.2.2.vl, .int .i64 ((j : Int) + 1)]) = _
        rw [e1]
      | cons h _ =>
        exfalso
        have h2 := HDN.out
        rw [HY.out] at h
        rw [h] at h2
        cases h2
    | false =>
      go_wp2_with fail
      (with_reducible refine HS.out.mono ?_)
      rintro e w1 ⟨ev2, rfl, hp1, hv1, ha1, _, hn1, hf1⟩
      have HB1 := Lib.hid (hn1 hdn)
      have P1 := Lib.hid hp1
      have V1 := Lib.hid hv1
      have A1 := Lib.hid (show ∀ x, ev2.ownBlock = some x → ev.ownBlock = some x ∨ w.heap.size ≤ x from fun x hx => (ha1 x hx).elim (fun e => HF.out.2 x e) (fun e => .inr (Nat.le_trans HF.out.1.size e)))
      have F1 := Lib.hid (fr_evs HF.out.1 HF.out.2 hf1)
      have HDN := Lib.hid hdn
      rw [hdn]
      clear hp1 hf1 hn1 hv1 ha1 hdn
      go_wp2_with fail
      go_roundw
      case rel =>
        have hr := HR.out.1
        cases hr with
        | last h =>
          exfalso
          have h2 := HDN.out
          rw [HY.out] at h
          rw [h] at h2
          cases h2
        | cons h h3 =>
          rw [HY.out] at h3
          exact ⟨j + 1, y.1, y.2.1, y.2.2.1, ev2, _, by go_num, P1.out, V1.out, A1.out, HB1.out, HU.out, HOK.out HDN.out, HLE.out, h3, by have := HR.out.2; omega, F1.out⟩
      case measure => simp [intOf]; have := HJ.out; omega

end Go.Proofs.Ytanbjdlaolgepaa
