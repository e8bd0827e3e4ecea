/-
  Plain mathematics: the steps of a machine until it is done. No function is named.
  workstealmatch.Alone of the machines of the owner. (Written by wip/gen_alone.py.)
-/
import Derived.Test.YtllllbepnnpeeaaGreatMgAT
import Derived.Test.YtllllbepnnpeeaaGreatMgBH
import Derived.LoopTactic
import Derived.OwnWalk
namespace Go.Proofs.YtllllbepnnpeeaaGreat
open Go Go.RowKit
set_option linter.unusedSimpArgs false

/-- A machine's steps until it is done: the state, the result, how many there are. -/
def runS (stp : St → Fra → St × Fra × Res) : Nat → St → Fra → Option (St × Res × Nat)
  | 0, _, _ => none
  | n + 1, s, f => if (stp s f).2.2.dn = true then some ((stp s f).1, (stp s f).2.2, 1) else (runS stp n (stp s f).1 (stp s f).2.1).map fun x => (x.1, x.2.1, x.2.2 + 1)
theorem runS_end {stp : St → Fra → St × Fra × Res} {n N : Nat} {s s' : St} {f : Fra} {r : Res} (h : runS stp (n + 1) s f = some (s', r, N)) (hd : (stp s f).2.2.dn = true) : (stp s f).1 = s' ∧ (stp s f).2.2 = r ∧ N = 1 := by
  unfold runS at h
  rw [if_pos hd] at h
  simp only [Option.some.injEq, Prod.mk.injEq] at h
  exact ⟨h.1, h.2.1, h.2.2.symm⟩
theorem runS_on {stp : St → Fra → St × Fra × Res} {n N : Nat} {s s' : St} {f : Fra} {r : Res} (h : runS stp (n + 1) s f = some (s', r, N)) (hd : (stp s f).2.2.dn = false) : ∃ M, runS stp n (stp s f).1 (stp s f).2.1 = some (s', r, M) ∧ N = M + 1 := by
  unfold runS at h
  rw [if_neg (by rw [hd]; decide)] at h
  cases h2 : runS stp n (stp s f).1 (stp s f).2.1 with
  | none => rw [h2] at h; simp at h
  | some x =>
    rw [h2] at h
    obtain ⟨a, b, c⟩ := x
    simp only [Option.map_some, Option.some.injEq, Prod.mk.injEq] at h
    obtain ⟨rfl, rfl, rfl⟩ := h
    exact ⟨c, rfl, rfl⟩
end Go.Proofs.YtllllbepnnpeeaaGreat

namespace Go.Proofs.YtllllbepnnpeeaaGreat
open Go Go.RowKit Go.Shelf
set_option linter.unusedSimpArgs false

/-- What Alone gives. -/
def Aloned (w : World) (p m k g cap : Nat) (s' : St) (t d : Int) (hd : List Value) (rv ev : Value) (q : Nat) (r : Res) (N : Nat) (e : Ending) (w' : World) : Prop :=
  e = .returned (.tuple #[.int .i64 r.cd, .int .i64 r.vl, .int .i64 N]) ∧ PE w' p m k g cap s' t d hd rv ev ∧ Fr [m, g, q] w w'

/-- What its loop keeps. -/
def AloR_pusher (w : World) (p m k g cap : Nat) (s' : St) (t d : Int) (hd : List Value) (rv ev : Value) (q : Nat) (r : Res) (N : Nat) (i : Value) (wr : World) : Prop :=
  ∃ (j : Nat) (s : St) (x : Fra), j ≤ 20 ∧ i = .int .i64 j ∧ PE wr p m k g cap s t d hd rv ev ∧ OB wr q 203 [.int .i64 x.fa] x 0 0 ∧ s.N ∧ PushOk x ∧ (∃ M, runS pushS (20 - j) s x = some (s', r, M) ∧ M + j = N) ∧ Fr [m, g, q] w wr
set_option maxRecDepth 100000 in
set_option maxHeartbeats 4000000 in
theorem alone_pusher {w : World} {p m k g cap : Nat} {s s' : St} {t d : Int} {hd : List Value} {rv ev : Value} {q : Nat} {x : Fra} {r : Res} {N : Nat} (hp : PE w p m k g cap s t d hd rv ev) (h : OB w q 203 [.int .i64 x.fa] x 0 0) (hn : s.N) (hk : PushOk x) (hr : runS pushS 20 s x = some (s', r, N)) :
    Calls Tryz.prog 42 #[.pointer (some ⟨p, 0, none⟩), .iface 201 (.pointer (some ⟨q, 0, none⟩)), .int .i64 20] w (Aloned w p m k g cap s' t d hd rv ev q r N) := by
  have HST := Lib.hid (show AloR_pusher w p m k g cap s' t d hd rv ev q r N (.int .i64 0) w from ⟨0, s, x, by omega, rfl, hp, h, hn, hk, ⟨N, hr, rfl⟩, Fr.refl _ _⟩)
  clear hp h hn hk hr
  have km := meth_step_pusher q
  have ka := ahead_step_pusher q
  have kr := meth_result_pusher q
  have kb := ahead_result_pusher q
  go_enter Tryz.func42, Tryz.ntmps42
  go_wp2_with fail
  go_loopw [8] (fun i wr => AloR_pusher w p m k g cap s' t d hd rv ev q r N i wr) (fun i _ => 20 - (intOf i).toNat)
  case atStart => exact HST.out
  case round =>
    clear HST
    obtain ⟨j, sj, x, hj, rfl, hp, ho, hn, hk, ⟨M, hr, hM⟩, hf⟩ := hrel
    have hj20 : j < 20 := by
      rcases Nat.lt_or_ge j 20 with h | h
      · exact h
      · obtain rfl : j = 20 := by omega
        simp [runS] at hr
    obtain ⟨l, hl⟩ : ∃ l, 20 - j = l + 1 := ⟨19 - j, by omega⟩
    rw [hl] at hr
    have HP := Lib.hid hp
    have HO := Lib.hid ho
    have HK := Lib.hid (And.intro hn (And.intro hk (And.intro hl hM)))
    have HR := Lib.hid hr
    have HF := Lib.hid hf
    clear hp ho hn hk hr hf hl hM
    have ej : wrap64 ((j : Int) + 1) = ((j + 1 : Nat) : Int) := by unfold wrap64; omega
    have hlt : (j : Int) < 20 := by omega
    have HS := Lib.hid (pusher_any HP.out HO.out HK.out.2.1.1 HK.out.2.1.2.1 HK.out.2.1.2.2.2)
    cases hdn : (pushS sj x).2.2.dn with
    | true =>
      obtain ⟨e1, e2, e3⟩ := runS_end HR.out hdn
      go_wp2_with fail
      (with_reducible refine HS.out.mono ?_)
      rintro e w1 ⟨rfl, hp1, hb1, hf1⟩
      have HB1 := Lib.hid hb1
      have HQ := Lib.hid (And.intro e1 (And.intro e2 e3))
      have HP1 := Lib.hid hp1
      have HF1 := Lib.hid (HF.out.trans hf1)
      clear hb1 hp1 hf1 e1 e2 e3
      rw [hdn]
      go_wp2_with fail
      (with_reducible refine (oresult_any HB1.out).mono ?_)
      rintro e w2 ⟨rfl, nd, rfl⟩
      go_wp2_with fail
      go_ret3
      obtain ⟨e1, e2, e3⟩ := HQ.out
      have eN : j + 1 = N := by have := HK.out.2.2.2; omega
      subst eN
      rw [← e2]
      have hP := HP1.out.drewN nd
      rw [e1] at hP
      exact ⟨rfl, hP, HF1.out.drewN nd⟩
    | false =>
      obtain ⟨M2, e1, e2⟩ := runS_on HR.out hdn
      have HQ := Lib.hid (And.intro e1 e2)
      clear e1 e2
      go_wp2_with fail
      (with_reducible refine HS.out.mono ?_)
      rintro e w1 ⟨rfl, hp1, hb1, hf1⟩
      rw [hdn] at hb1
      have HB1 := Lib.hid hb1
      have HP1 := Lib.hid hp1
      have HF1 := Lib.hid (HF.out.trans hf1)
      clear hb1 hp1 hf1
      rw [hdn]
      go_wp2_with fail
      go_roundw
      case rel =>
        obtain ⟨e1, e2⟩ := HQ.out
        have hz := push_keeps.z sj x hdn
        have hb := HB1.out
        simp only [Bool.false_eq_true, if_false] at hb
        rw [hz.1, hz.2] at hb
        refine ⟨j + 1, (pushS sj x).1, (pushS sj x).2.1, by omega, by go_num, HP1.out, ?_, push_keeps.n _ _ HK.out.1 HK.out.2.1, push_keeps.o _ _ HK.out.1 HK.out.2.1 hdn, ⟨M2, ?_, ?_⟩, HF1.out⟩
        · rw [(push_keeps.q sj x).1]
          exact hb
        · rw [show 20 - (j + 1) = l by have := HK.out.2.2.1; omega]
          exact e1
        · have := HK.out.2.2.2
          omega
      case measure => simp [intOf]; omega

/-- What its loop keeps. -/
def AloR_popper (w : World) (p m k g cap : Nat) (s' : St) (t d : Int) (hd : List Value) (rv ev : Value) (q : Nat) (r : Res) (N : Nat) (i : Value) (wr : World) : Prop :=
  ∃ (j : Nat) (s : St) (x : Fra), j ≤ 20 ∧ i = .int .i64 j ∧ PE wr p m k g cap s t d hd rv ev ∧ OB wr q 206 [] x 0 0 ∧ s.N ∧ PopOk x ∧ (∃ M, runS popS (20 - j) s x = some (s', r, M) ∧ M + j = N) ∧ Fr [m, g, q] w wr
set_option maxRecDepth 100000 in
set_option maxHeartbeats 4000000 in
theorem alone_popper {w : World} {p m k g cap : Nat} {s s' : St} {t d : Int} {hd : List Value} {rv ev : Value} {q : Nat} {x : Fra} {r : Res} {N : Nat} (hp : PE w p m k g cap s t d hd rv ev) (h : OB w q 206 [] x 0 0) (hn : s.N) (hk : PopOk x) (hr : runS popS 20 s x = some (s', r, N)) :
    Calls Tryz.prog 42 #[.pointer (some ⟨p, 0, none⟩), .iface 204 (.pointer (some ⟨q, 0, none⟩)), .int .i64 20] w (Aloned w p m k g cap s' t d hd rv ev q r N) := by
  have HST := Lib.hid (show AloR_popper w p m k g cap s' t d hd rv ev q r N (.int .i64 0) w from ⟨0, s, x, by omega, rfl, hp, h, hn, hk, ⟨N, hr, rfl⟩, Fr.refl _ _⟩)
  clear hp h hn hk hr
  have km := meth_step_popper q
  have ka := ahead_step_popper q
  have kr := meth_result_popper q
  have kb := ahead_result_popper q
  go_enter Tryz.func42, Tryz.ntmps42
  go_wp2_with fail
  go_loopw [8] (fun i wr => AloR_popper w p m k g cap s' t d hd rv ev q r N i wr) (fun i _ => 20 - (intOf i).toNat)
  case atStart => exact HST.out
  case round =>
    clear HST
    obtain ⟨j, sj, x, hj, rfl, hp, ho, hn, hk, ⟨M, hr, hM⟩, hf⟩ := hrel
    have hj20 : j < 20 := by
      rcases Nat.lt_or_ge j 20 with h | h
      · exact h
      · obtain rfl : j = 20 := by omega
        simp [runS] at hr
    obtain ⟨l, hl⟩ : ∃ l, 20 - j = l + 1 := ⟨19 - j, by omega⟩
    rw [hl] at hr
    have HP := Lib.hid hp
    have HO := Lib.hid ho
    have HK := Lib.hid (And.intro hn (And.intro hk (And.intro hl hM)))
    have HR := Lib.hid hr
    have HF := Lib.hid hf
    clear hp ho hn hk hr hf hl hM
    have ej : wrap64 ((j : Int) + 1) = ((j + 1 : Nat) : Int) := by unfold wrap64; omega
    have hlt : (j : Int) < 20 := by omega
    have HS := Lib.hid (popper_any HP.out HO.out HK.out.2.1.1 HK.out.2.1.2.2.2)
    cases hdn : (popS sj x).2.2.dn with
    | true =>
      obtain ⟨e1, e2, e3⟩ := runS_end HR.out hdn
      go_wp2_with fail
      (with_reducible refine HS.out.mono ?_)
      rintro e w1 ⟨rfl, hp1, hb1, hf1⟩
      have HB1 := Lib.hid hb1
      have HQ := Lib.hid (And.intro e1 (And.intro e2 e3))
      have HP1 := Lib.hid hp1
      have HF1 := Lib.hid (HF.out.trans hf1)
      clear hb1 hp1 hf1 e1 e2 e3
      rw [hdn]
      go_wp2_with fail
      (with_reducible refine (oresult_any HB1.out).mono ?_)
      rintro e w2 ⟨rfl, nd, rfl⟩
      go_wp2_with fail
      go_ret3
      obtain ⟨e1, e2, e3⟩ := HQ.out
      have eN : j + 1 = N := by have := HK.out.2.2.2; omega
      subst eN
      rw [← e2]
      have hP := HP1.out.drewN nd
      rw [e1] at hP
      exact ⟨rfl, hP, HF1.out.drewN nd⟩
    | false =>
      obtain ⟨M2, e1, e2⟩ := runS_on HR.out hdn
      have HQ := Lib.hid (And.intro e1 e2)
      clear e1 e2
      go_wp2_with fail
      (with_reducible refine HS.out.mono ?_)
      rintro e w1 ⟨rfl, hp1, hb1, hf1⟩
      rw [hdn] at hb1
      have HB1 := Lib.hid hb1
      have HP1 := Lib.hid hp1
      have HF1 := Lib.hid (HF.out.trans hf1)
      clear hb1 hp1 hf1
      rw [hdn]
      go_wp2_with fail
      go_roundw
      case rel =>
        obtain ⟨e1, e2⟩ := HQ.out
        have hz := pop_keeps.z sj x hdn
        have hb := HB1.out
        simp only [Bool.false_eq_true, if_false] at hb
        rw [hz.1, hz.2] at hb
        refine ⟨j + 1, (popS sj x).1, (popS sj x).2.1, by omega, by go_num, HP1.out, ?_, pop_keeps.n _ _ HK.out.1 HK.out.2.1, pop_keeps.o _ _ HK.out.1 HK.out.2.1 hdn, ⟨M2, ?_, ?_⟩, HF1.out⟩
        · exact hb
        · rw [show 20 - (j + 1) = l by have := HK.out.2.2.1; omega]
          exact e1
        · have := HK.out.2.2.2
          omega
      case measure => simp [intOf]; omega

end Go.Proofs.YtllllbepnnpeeaaGreat
