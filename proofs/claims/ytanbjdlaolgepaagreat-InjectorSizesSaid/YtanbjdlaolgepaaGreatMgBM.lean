/-
  workstealmatch.Alone of the machines of package injector. (Written by wip/gen_inj.py.)
  The reference's Coder as a reader: the contract of Number; blocks that are filled while numbers are read.
-/
import Derived.Test.YtanbjdlaolgepaaGreatMgBL
import Derived.LoopTactic
import Derived.OwnWalk
import Derived.Test.YtanbjdlaolgepaaGreatCfDecA
namespace Go.Proofs.YtanbjdlaolgepaaGreat
open Go Go.RowKit Go.Shelf
set_option linter.unusedSimpArgs false
set_option linter.unusedVariables false


/-- What Alone gives. -/
def AlonedE (B : Nat) (w : World) (p m k g cap : Nat) (s' : St) (t d : Int) (hd : List Value) (rv ev : Value) (es' : List Ev) (q : Nat) (r : Res) (N : Nat) (e : Ending) (w' : World) : Prop :=
  ∃ ev', e = .returned (.tuple #[.int .i64 r.cd, .int .i64 r.vl, .int .i64 N]) ∧ PE w' p m k g cap s' t d hd rv ev' ∧ OwnE w' B ev' es' ∧ (∀ x, ev'.ownBlock = some x → ev.ownBlock = some x ∨ w.heap.size ≤ x) ∧ Fr (p :: m :: g :: q :: ev.ownBlock.toList) w w'
/-- What its loop keeps. -/
def AloER (stp : St → List Ev → Fra → St × List Ev × Fra × Res) (ok : Fra → Prop) (ty : TypeId) (post : Fra → List Value) (B : Nat) (w : World) (p m k g cap : Nat) (s' : St) (t d : Int) (hd : List Value) (rv ev : Value) (E : Nat) (es' : List Ev) (q : Nat) (r : Res) (N : Nat) (v : Value) (wr : World) : Prop :=
  ∃ (j : Nat) (s : St) (es : List Ev) (f : Fra) (ev1 : Value) (M : Nat), v = .int .i64 j ∧ PE wr p m k g cap s t d hd rv ev1 ∧ OwnE wr B ev1 es ∧ (∀ x, ev1.ownBlock = some x → ev.ownBlock = some x ∨ w.heap.size ≤ x) ∧ LB wr q ty (post f) f 0 0 ∧ s.U ∧ ok f ∧ es.length ≤ E + j ∧ RunE stp s es f s' es' r M ∧ M + j = N ∧ Fr (p :: m :: g :: q :: ev.ownBlock.toList) w wr
theorem fr_evs {w wr w' : World} {p m g q : Nat} {ev ev1 : Value} (hf : Fr (p :: m :: g :: q :: ev.ownBlock.toList) w wr) (hi : ∀ x, ev1.ownBlock = some x → ev.ownBlock = some x ∨ w.heap.size ≤ x) (h : Fr (p :: m :: g :: q :: ev1.ownBlock.toList) wr w') : Fr (p :: m :: g :: q :: ev.ownBlock.toList) w w' := by
  refine Fr.drop hf h (fun y hy => ?_)
  simp only [List.mem_cons, Option.mem_toList] at hy
  rcases hy with rfl | rfl | rfl | rfl | hy
  · exact .inl (by simp)
  · exact .inl (by simp)
  · exact .inl (by simp)
  · exact .inl (by simp)
  · rcases hi y hy with e | e
    · exact .inl (by simp [e])
    · exact .inr e
theorem rem_es (c : Cfg) (s : St) (es : List Ev) (f : Fra) : (removeS c s es f).2.1.length ≤ es.length + 1 := by
  unfold removeS
  repeat' split
  all_goals simp

set_option maxRecDepth 100000 in
set_option maxHeartbeats 4000000 in
theorem alone_inserter {w : World} {p m k g cap : Nat} {s s' : St} {t d : Int} {hd : List Value} {rv ev : Value} {c : Cfg} {q B : Nat} {f : Fra} {es es' : List Ev} {r : Res} {N most : Nat} (hin : CfgIn c) (hp : PE w p m k g cap s t d hd rv ev) (hl : LayHd hd c) (h : LB w q 112 (ipost f) f 0 0) (hev : OwnE w B ev es) (hB0 : B ≤ w.heap.size) (hE : es.length ≤ 800000) (hu : s.U) (ho : InsOk f) (hr : RunE (insE c) s es f s' es' r N) (hN : N ≤ most) (hm : most ≤ 1000) :
    Calls Tryz.prog 28 #[.pointer (some ⟨p, 0, none⟩), .iface 110 (.pointer (some ⟨q, 0, none⟩)), .int .i64 most] w (AlonedE B w p m k g cap s' t d hd rv ev es' q r N) := by
  obtain ⟨E, hEE⟩ : ∃ E, es.length = E := ⟨_, rfl⟩
  rw [hEE] at hE
  have HST := Lib.hid (show AloER (insE c) InsOk 112 ipost B w p m k g cap s' t d hd rv ev E es' q r N (.int .i64 0) w from ⟨0, s, es, f, ev, N, rfl, hp, hev, fun x hx => .inl hx, h, hu, ho, by omega, hr, rfl, Fr.refl _ _⟩)
  clear hp hu ho hr h hev hEE
  have HM := Lib.hid (And.intro hN (And.intro hm hE))
  have HL := Lib.hid hl
  have HIN := Lib.hid hin
  have HB := Lib.hid hB0
  clear hl hin hB0 hE
  have km := meth_step_inserter q
  have ka := ahead_step_inserter q
  have kr := meth_result_inserter q
  have kb := ahead_result_inserter q
  go_enter Tryz.func28, Tryz.ntmps28
  go_wp2_with fail
  go_loopw [8] (fun i wr => AloER (insE c) InsOk 112 ipost B w p m k g cap s' t d hd rv ev E es' q r N i wr) (fun i _ => most - (intOf i).toNat)
  case atStart => exact HST.out
  case round =>
    clear HST
    obtain ⟨j, s, es, f, ev1, M, rfl, hp, hev, hat, h, hu, ho, hes, hr, hM, hf⟩ := hrel
    have hj : j < most := by
      have h1 : 1 ≤ M := hr.one
      have := HM.out.1
      omega
    have ej : wrap64 ((j : Int) + 1) = ((j + 1 : Nat) : Int) := by have := HM.out; unfold wrap64; omega
    have hlt : (j : Int) < (most : Int) := by omega
    have hEE := HM.out
    have hl := HL.out
    have hin := HIN.out
    have hB0 := HB.out
    have HS : Hid (Calls Tryz.prog 194 #[.pointer (some ⟨q, 0, none⟩), .pointer (some ⟨p, 0, none⟩)] wr (IStep B wr p m k g cap ((insE c) s es f).1 t d hd rv ev1 ((insE c) s es f).2.1 q 112 ipost ((insE c) s es f).2.2.1 ((insE c) s es f).2.2.2)) := Lib.hid (inserter_any hin hp hl h hev ho)
    have HF := Lib.hid (And.intro hf hat)
    have HOK := Lib.hid (show ((insE c) s es f).2.2.2.dn = false → InsOk ((insE c) s es f).2.2.1 from ins_ok hu ho)
    have HU := Lib.hid (show ((insE c) s es f).1.U from ins_U hu ho.u)
    have HLE := Lib.hid (show ((insE c) s es f).2.1.length ≤ E + (j + 1) from by have := (show (insE c s es f).2.1.length ≤ es.length + 1 from Nat.le_succ _); omega)
    have HR := Lib.hid (And.intro hr hM)
    have HJ := Lib.hid hj
    clear hp hev hat h hu ho hes hr hM hf hj hEE hl hin hB0
    obtain ⟨y, hy⟩ : ∃ y, (insE c) s es f = y := ⟨_, rfl⟩
    have HY := Lib.hid hy
    rw [hy] at HS HU HOK HLE
    clear hy
    cases hdn : y.2.2.2.dn with
    | true =>
      go_wp2_with fail
      (with_reducible refine HS.out.mono ?_)
      rintro e w1 ⟨ev2, rfl, hp1, hv1, ha1, hd1, _, hf1⟩
      obtain ⟨f0, hb1⟩ := hd1 hdn
      have B1 := Lib.hid hb1
      have P1 := Lib.hid hp1
      have V1 := Lib.hid hv1
      have A1 := Lib.hid (show ∀ x, ev2.ownBlock = some x → ev.ownBlock = some x ∨ w.heap.size ≤ x from fun x hx => (ha1 x hx).elim (fun e => HF.out.2 x e) (fun e => .inr (Nat.le_trans HF.out.1.size e)))
      have F1 := Lib.hid (fr_evs HF.out.1 HF.out.2 hf1)
      have HDN := Lib.hid hdn
      rw [hdn]
      clear hb1 hp1 hf1 hd1 hdn hv1 ha1
      go_wp2_with fail
      (with_reducible refine (lresult_any B1.out).mono ?_)
      rintro e w2 ⟨rfl, nd, rfl⟩
      go_wp2_with fail
      go_ret3
      have hr := HR.out.1
      cases hr with
      | last _ =>
        have hN := HR.out.2
        have e1 : (j : Int) + 1 = (N : Int) := by omega
        have hP := P1.out.drewN nd
        have ey := HY.out
        rw [ey]
        refine ⟨ev2, ?_, hP, V1.out.below (below_drewN w1 nd), A1.out, F1.out.drewN nd⟩
        show Ending.returned (.tuple #[.int .i64 y.2.2.2.cd, .int .i64 y.2.2.2.vl, .int .i64 ((j : Int) + 1)]) = _
        rw [e1]
      | cons h _ =>
        exfalso
        have h2 := HDN.out
        rw [HY.out] at h
        rw [h] at h2
        cases h2
    | false =>
      go_wp2_with fail
      (with_reducible refine HS.out.mono ?_)
      rintro e w1 ⟨ev2, rfl, hp1, hv1, ha1, _, hn1, hf1⟩
      have HB1 := Lib.hid (hn1 hdn)
      have P1 := Lib.hid hp1
      have V1 := Lib.hid hv1
      have A1 := Lib.hid (show ∀ x, ev2.ownBlock = some x → ev.ownBlock = some x ∨ w.heap.size ≤ x from fun x hx => (ha1 x hx).elim (fun e => HF.out.2 x e) (fun e => .inr (Nat.le_trans HF.out.1.size e)))
      have F1 := Lib.hid (fr_evs HF.out.1 HF.out.2 hf1)
      have HDN := Lib.hid hdn
      rw [hdn]
      clear hp1 hf1 hn1 hv1 ha1 hdn
      go_wp2_with fail
      go_roundw
      case rel =>
        have hr := HR.out.1
        cases hr with
        | last h =>
          exfalso
          have h2 := HDN.out
          rw [HY.out] at h
          rw [h] at h2
          cases h2
        | cons h h3 =>
          rw [HY.out] at h3
          exact ⟨j + 1, y.1, y.2.1, y.2.2.1, ev2, _, by go_num, P1.out, V1.out, A1.out, HB1.out, HU.out, HOK.out HDN.out, HLE.out, h3, by have := HR.out.2; omega, F1.out⟩
      case measure => simp [intOf]; have := HJ.out; omega

set_option maxRecDepth 100000 in
set_option maxHeartbeats 4000000 in
theorem alone_remover {w : World} {p m k g cap : Nat} {s s' : St} {t d : Int} {hd : List Value} {rv ev : Value} {c : Cfg} {q B : Nat} {f : Fra} {es es' : List Ev} {r : Res} {N most : Nat} (hin : CfgIn c) (hp : PE w p m k g cap s t d hd rv ev) (hl : LayHd hd c) (h : LB w q 109 (rpost f) f 0 0) (hev : OwnE w B ev es) (hB0 : B ≤ w.heap.size) (hE : es.length ≤ 800000) (hu : s.U) (ho : RemOk f) (hr : RunE (removeS c) s es f s' es' r N) (hN : N ≤ most) (hm : most ≤ 1000) :
    Calls Tryz.prog 28 #[.pointer (some ⟨p, 0, none⟩), .iface 102 (.pointer (some ⟨q, 0, none⟩)), .int .i64 most] w (AlonedE B w p m k g cap s' t d hd rv ev es' q r N) := by
  obtain ⟨E, hEE⟩ : ∃ E, es.length = E := ⟨_, rfl⟩
  rw [hEE] at hE
  have HST := Lib.hid (show AloER (removeS c) RemOk 109 rpost B w p m k g cap s' t d hd rv ev E es' q r N (.int .i64 0) w from ⟨0, s, es, f, ev, N, rfl, hp, hev, fun x hx => .inl hx, h, hu, ho, by omega, hr, rfl, Fr.refl _ _⟩)
  clear hp hu ho hr h hev hEE
  have HM := Lib.hid (And.intro hN (And.intro hm hE))
  have HL := Lib.hid hl
  have HIN := Lib.hid hin
  have HB := Lib.hid hB0
  clear hl hin hB0 hE
  have km := meth_step_remover q
  have ka := ahead_step_remover q
  have kr := meth_result_remover q
  have kb := ahead_result_remover q
  go_enter Tryz.func28, Tryz.ntmps28
  go_wp2_with fail
  go_loopw [8] (fun i wr => AloER (removeS c) RemOk 109 rpost B w p m k g cap s' t d hd rv ev E es' q r N i wr) (fun i _ => most - (intOf i).toNat)
  case atStart => exact HST.out
  case round =>
    clear HST
    obtain ⟨j, s, es, f, ev1, M, rfl, hp, hev, hat, h, hu, ho, hes, hr, hM, hf⟩ := hrel
    have hj : j < most := by
      have h1 : 1 ≤ M := hr.one
      have := HM.out.1
      omega
    have ej : wrap64 ((j : Int) + 1) = ((j + 1 : Nat) : Int) := by have := HM.out; unfold wrap64; omega
    have hlt : (j : Int) < (most : Int) := by omega
    have hEE := HM.out
    have hl := HL.out
    have hin := HIN.out
    have hB0 := HB.out
    have HS : Hid (Calls Tryz.prog 173 #[.pointer (some ⟨q, 0, none⟩), .pointer (some ⟨p, 0, none⟩)] wr (IStep B wr p m k g cap ((removeS c) s es f).1 t d hd rv ev1 ((removeS c) s es f).2.1 q 109 rpost ((removeS c) s es f).2.2.1 ((removeS c) s es f).2.2.2)) := Lib.hid (remover_any hin hp hl h hev (by omega) (Nat.le_trans hB0 hf.size) ho)
    have HF := Lib.hid (And.intro hf hat)
    have HOK := Lib.hid (show ((removeS c) s es f).2.2.2.dn = false → RemOk ((removeS c) s es f).2.2.1 from rem_ok hin hu ho)
    have HU := Lib.hid (show ((removeS c) s es f).1.U from rem_U hu ho.u)
    have HLE := Lib.hid (show ((removeS c) s es f).2.1.length ≤ E + (j + 1) from by have := rem_es c s es f; omega)
    have HR := Lib.hid (And.intro hr hM)
    have HJ := Lib.hid hj
    clear hp hev hat h hu ho hes hr hM hf hj hEE hl hin hB0
    obtain ⟨y, hy⟩ : ∃ y, (removeS c) s es f = y := ⟨_, rfl⟩
    have HY := Lib.hid hy
    rw [hy] at HS HU HOK HLE
    clear hy
    cases hdn : y.2.2.2.dn with
    | true =>
      go_wp2_with fail
      (with_reducible refine HS.out.mono ?_)
      rintro e w1 ⟨ev2, rfl, hp1, hv1, ha1, hd1, _, hf1⟩
      obtain ⟨f0, hb1⟩ := hd1 hdn
      have B1 := Lib.hid hb1
      have P1 := Lib.hid hp1
      have V1 := Lib.hid hv1
      have A1 := Lib.hid (show ∀ x, ev2.ownBlock = some x → ev.ownBlock = some x ∨ w.heap.size ≤ x from fun x hx => (ha1 x hx).elim (fun e => HF.out.2 x e) (fun e => .inr (Nat.le_trans HF.out.1.size e)))
      have F1 := Lib.hid (fr_evs HF.out.1 HF.out.2 hf1)
      have HDN := Lib.hid hdn
      rw [hdn]
      clear hb1 hp1 hf1 hd1 hdn hv1 ha1
      go_wp2_with fail
      (with_reducible refine (lresult_any B1.out).mono ?_)
      rintro e w2 ⟨rfl, nd, rfl⟩
      go_wp2_with fail
      go_ret3
      have hr := HR.out.1
      cases hr with
      | last _ =>
        have hN := HR.out.2
        have e1 : (j : Int) + 1 = (N : Int) := by omega
        have hP := P1.out.drewN nd
        have ey := HY.out
        rw [ey]
        refine ⟨ev2, ?_, hP, V1.out.below (below_drewN w1 nd), A1.out, F1.out.drewN nd⟩
        show Ending.returned (.tuple #[.int .i64 y.2.2.2.cd, .int .i64 y.2.2.2.vl, .int .i64 ((j : Int) + 1)]) = _
        rw [e1]
      | cons h _ =>
        exfalso
        have h2 := HDN.out
        rw [HY.out] at h
        rw [h] at h2
        cases h2
    | false =>
      go_wp2_with fail
      (with_reducible refine HS.out.mono ?_)
      rintro e w1 ⟨ev2, rfl, hp1, hv1, ha1, _, hn1, hf1⟩
      have HB1 := Lib.hid (hn1 hdn)
      have P1 := Lib.hid hp1
      have V1 := Lib.hid hv1
      have A1 := Lib.hid (show ∀ x, ev2.ownBlock = some x → ev.ownBlock = some x ∨ w.heap.size ≤ x from fun x hx => (ha1 x hx).elim (fun e => HF.out.2 x e) (fun e => .inr (Nat.le_trans HF.out.1.size e)))
      have F1 := Lib.hid (fr_evs HF.out.1 HF.out.2 hf1)
      have HDN := Lib.hid hdn
      rw [hdn]
      clear hp1 hf1 hn1 hv1 ha1 hdn
      go_wp2_with fail
      go_roundw
      case rel =>
        have hr := HR.out.1
        cases hr with
        | last h =>
          exfalso
          have h2 := HDN.out
          rw [HY.out] at h
          rw [h] at h2
          cases h2
        | cons h h3 =>
          rw [HY.out] at h3
          exact ⟨j + 1, y.1, y.2.1, y.2.2.1, ev2, _, by go_num, P1.out, V1.out, A1.out, HB1.out, HU.out, HOK.out HDN.out, HLE.out, h3, by have := HR.out.2; omega, F1.out⟩
      case measure => simp [intOf]; have := HJ.out; omega

end Go.Proofs.YtanbjdlaolgepaaGreat

namespace Go.Proofs.YtanbjdlaolgepaaGreat
open Go Go.RowKit

/-- The Coder r stands at place i of the bytes zs, which lie below B. -/
def Cdr (w : World) (B r : Nat) (zs : List Int) (i : Nat) : Prop :=
  ∃ a n c, Blk w r 145 #[.slice a n c, .slice none 0 0, .int .i64 i, .bool false] ∧ InB w B a n zs ∧ B ≤ r
theorem Cdr.lt {w : World} {B g : Nat} {zs : List Int} {i : Nat} (h : Cdr w B g zs i) : g < w.heap.size := by
  obtain ⟨a, n, c, h1, _⟩ := h
  exact h1.lt
theorem stable_cdr : Stable Cdr := by
  intro w w' B g zs i S h hf hS
  obtain ⟨a, n, c, h1, h2, h3⟩ := h
  exact ⟨a, n, c, h1.of_same (hf.block g h1.lt (fun hm => (hS g hm).2 rfl)), h2.fr (by have := h1.lt; omega) hf (fun s hs => (hS s hs).1), h3⟩

def NumN (B g : Nat) (zs : List Int) (i : Nat) (k : Int) (w : World) (e : Ending) (w' : World) : Prop :=
  e = .returned (.int .i64 (strm zs i % k)) ∧ Cdr w' B g zs (i + 1) ∧ Fr [g] w w'

set_option maxRecDepth 20000 in
set_option maxHeartbeats 2000000 in
theorem number_any {w : World} {B g : Nat} {zs : List Int} {i : Nat} (h : Cdr w B g zs i) (k : Int) (hk : 1 ≤ k) (hk' : k ≤ 1000) (hi : i ≤ 100000) :
    Calls Tryz.prog 58 #[.pointer (some ⟨g, 0, none⟩), .int .i64 k] w (NumN B g zs i k w) := by
  have hlt := h.lt
  obtain ⟨a, n, c, hb, hz, hB⟩ := h
  have hmax := hz.2.1
  unfold maxLen at hmax
  have hlen := hz.1
  have HZ := Lib.hid hz
  have HB := Lib.hid hb
  have hc0 : w.cell? ⟨g, 0, none⟩ = some (.slice a n c) := hb.at_ 0
  have hc2 : w.cell? ⟨g, 2, none⟩ = some (.int .i64 i) := hb.at_ 2
  have hf2 := hb.free 2
  have hend : ∀ v : Int, v = (i : Int) + 1 → Cdr ((w.drew.drew).setCell ⟨g, 2, none⟩ (.int .i64 v)) B g zs (i + 1) ∧ Cdr ((w.drew).setCell ⟨g, 2, none⟩ (.int .i64 v)) B g zs (i + 1) := by
    intro v hv
    subst hv
    have h1 : ∀ u : World, u.heap = w.heap → Cdr (u.setCell ⟨g, 2, none⟩ (.int .i64 ((i : Int) + 1))) B g zs (i + 1) := by
      intro u hu
      have hbu : Blk u g 145 #[.slice a n c, .slice none 0 0, .int .i64 i, .bool false] := by
        have := HB.out
        unfold Blk at this ⊢
        rw [hu]
        exact this
      have hzu : InB u B a n zs := ⟨HZ.out.1, HZ.out.2.1, fun j hj => by
        obtain ⟨x, e, hx, hc, hr⟩ := HZ.out.2.2 j hj
        refine ⟨x, e, hx, ?_, hr⟩
        unfold World.cell? at hc ⊢
        rw [hu]
        exact hc⟩
      have hp := hbu.put 2 (.int .i64 ((i : Int) + 1))
      simp only [List.setIfInBounds_toArray, List.set_cons_zero, List.set_cons_succ] at hp
      exact ⟨a, n, c, hp, hzu.fr (S := [g]) (by rw [hu]; omega) ((Fr.refl _ _).setCell (p := ⟨g, 2, none⟩) (.inl (List.mem_singleton.2 rfl)) _) (fun s hs => by simp at hs; omega), hB⟩
    exact ⟨h1 _ rfl, h1 _ rfl⟩
  have HE := Lib.hid hend
  clear hz hb hend
  by_cases hn : i < n
  · obtain ⟨x, rfl, hx, hcx, z0, z1⟩ := HZ.out.2.2 i hn
    obtain ⟨z, hzz⟩ : ∃ z, zs.getD i 0 = z := ⟨_, rfl⟩
    rw [hzz] at hcx z0 z1
    have HS := Lib.hid (show strm zs i = z from hzz)
    have i0 : (0 : Int) ≤ (i : Int) := by omega
    have i1 : (i : Int) < (n : Int) := by omega
    have m0 : 0 ≤ z % k := Int.emod_nonneg _ (by omega)
    have m1 : z % k < k := Int.emod_lt_of_pos _ (by omega)
    clear hzz hlen HZ HB
    go_enter Tryz.func58, Tryz.ntmps58
    go_wp2_with fail
    go_region
    go_wp2_with fail
    go_region
    go_wp2
    go_ret
    exact ⟨by rw [HS.out]; rfl, (HE.out _ rfl).1, ((Fr.refl _ _).drew.drew).setCell (p := ⟨g, 2, none⟩) (.inl (List.mem_singleton.2 rfl)) _⟩
  · have hs : strm zs i = 0 := by
      unfold strm
      rw [List.getD_eq_getElem?_getD, List.getElem?_eq_none (by omega)]
      rfl
    have HS := Lib.hid hs
    have i1 : ¬ (i : Int) < (n : Int) := by omega
    clear hs hlen HZ HB
    go_enter Tryz.func58, Tryz.ntmps58
    go_wp2_with fail
    go_region
    go_wp2
    go_ret
    exact ⟨by rw [HS.out, Int.zero_emod]; rfl, (HE.out _ rfl).2, ((Fr.refl _ _).drew).setCell (p := ⟨g, 2, none⟩) (.inl (List.mem_singleton.2 rfl)) _⟩

/-- A new block c of type t that holds the cells cs, while the reader g moves on. -/
structure BSt (Rd : World → Nat → Nat → List Int → Nat → Prop) (t : TypeId) (w0 : World) (B g : Nat) (zs : List Int) (i : Nat) (c : Nat) (cs : Array Value) (w : World) : Prop where
  rd : Rd w B g zs i
  fr : Fr [g] w0 w
  b : Blk w c t cs
  new : w0.heap.size ≤ c
theorem BSt.first {Rd : World → Nat → Nat → List Int → Nat → Prop} {t : TypeId} {w0 w1 : World} {B g : Nat} {zs : List Int} {i : Nat} (hst : Stable Rd) (hr : Rd w1 B g zs i) (hf : Fr [g] w0 w1) (cs : Array Value) :
    BSt Rd t w0 B g zs i w1.heap.size cs (w1.alloc (.cells cs t)) :=
  ⟨hst (S := []) hr ((Fr.refl [] w1).alloc _) (fun s hs => by cases hs), hf.alloc _, Blk.made _ _ _, hf.size⟩
theorem BSt.step {Rd : World → Nat → Nat → List Int → Nat → Prop} {t : TypeId} {w0 w w' : World} {B g c : Nat} {zs : List Int} {i : Nat} {cs : Array Value} (h : BSt Rd t w0 B g zs i c cs w) (hst : Stable Rd) (hg : g < w0.heap.size) (hB : B ≤ g) (hr : Rd w' B g zs (i + 1)) (hf : Fr [g] w w') (j : Nat) (u : Value) :
    BSt Rd t w0 B g zs (i + 1) c (cs.setIfInBounds j u) (w'.setCell ⟨c, j, none⟩ u) := by
  have hn := h.new
  have hc := h.b.of_same (hf.block _ h.b.lt (by simp; omega))
  exact ⟨hst (S := [c]) hr ((Fr.refl _ _).setCell (p := ⟨c, j, none⟩) (.inl (List.mem_singleton.2 rfl)) u) (fun s hs => by simp at hs; omega), (h.fr.trans hf).setCell (.inr (by show w0.heap.size ≤ c; omega)) u, hc.put j u, hn⟩
theorem BSt.at_ {Rd : World → Nat → Nat → List Int → Nat → Prop} {t : TypeId} {w0 w w' : World} {B g c : Nat} {zs : List Int} {i : Nat} {cs : Array Value} (h : BSt Rd t w0 B g zs i c cs w) (hg : g < w0.heap.size) (hf : Fr [g] w w') (j : Nat) : w'.cell? ⟨c, j, none⟩ = cs[j]? ∧ w'.frozen? ⟨c, j, none⟩ = false :=
  have hn := h.new
  have hc := h.b.of_same (hf.block _ h.b.lt (by simp; omega))
  ⟨hc.at_ j, hc.free j⟩
theorem three_set (w : World) (p : Addr) (x : Value) (t : TypeId) (o u v : Int) : Three ((w.setCell p x).alloc (.cells #[.int .i64 o, .int .i64 u, .int .i64 v] t)) ⟨w.heap.size, 0, none⟩ (o, u, v) := by
  have := three_new (w.setCell p x) t o u v
  rwa [show (w.setCell p x).heap.size = w.heap.size by simp [World.setCell]] at this
end Go.Proofs.YtanbjdlaolgepaaGreat
