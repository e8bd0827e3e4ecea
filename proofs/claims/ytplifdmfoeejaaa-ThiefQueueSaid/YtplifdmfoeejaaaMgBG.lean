/-
  Package thief: Steal; the methods of its machine. (Written by wip/gen_alone.py.)
  Plain mathematics: what a step of a steal keeps. No function is named.
  workstealmatch.Alone of the thief. (Written by wip/gen_alone.py.)
-/
import Derived.Test.YtplifdmfoeejaaaThA
import Derived.Test.YtplifdmfoeejaaaOwN
import Derived.Test.YtplifdmfoeejaaaMgAI
import Derived.Test.YtplifdmfoeejaaaAlo
namespace Go.Proofs.Ytplifdmfoeejaaa
open Go Go.RowKit Go.Shelf
set_option linter.unusedSimpArgs false

/-- What Steal gives: a machine at its first line. -/
def Stealed (t b r k : Int) (w : World) (e : Ending) (w' : World) : Prop :=
  ∃ q : Nat, e = .returned (.iface 98 (.pointer (some ⟨q, 0, none⟩))) ∧ OB w' q 100 [.int .u64 0] (fra1 2 t b r k 0) 0 0 ∧ w.heap.size ≤ q ∧ Below w.heap.size w w'
set_option maxHeartbeats 2000000 in
theorem oSteal_any (t b r k : Int) (w : World) : Calls Try.prog 22 #[qv t b r k] w (Stealed t b r k w) := by
  have HQ := Lib.hid (below_one w (.cells (qcells t b r k) 25))
  go_enter Try.func22, Try.ntmps22
  go_wp2_with fail
  (with_reducible refine (on_any t b r k _).mono ?_)
  rintro e w1 ⟨rfl, hb⟩
  have HB := Lib.hid (HQ.out.trans (hb.mono HQ.out.size))
  clear hb
  go_wp2
  go_ret
  have hs := HB.out.size
  refine ⟨w1.heap.size, rfl, ⟨Blk.made w1 _ _, by decide, by decide, by decide, by decide⟩, hs, HB.out.trans ((below_one w1 _).mono hs)⟩

/-- Its methods. -/
theorem meth_step_stealer (q : Nat) (w : World) : (method 249 98 (.pointer (some ⟨q, 0, none⟩)) "Step").run Try.prog w = .ok (87, .pointer (some ⟨q, 0, none⟩)) w := by kernel_rfl
theorem ahead_step_stealer (q : Nat) (w : World) : (nilAhead 249 98 (.pointer (some ⟨q, 0, none⟩)) "Step").run Try.prog w = .ok (some false) w := by kernel_rfl
theorem meth_result_stealer (q : Nat) (w : World) : (method 249 98 (.pointer (some ⟨q, 0, none⟩)) "Result").run Try.prog w = .ok (71, .pointer (some ⟨q, 0, none⟩)) w := by kernel_rfl
theorem ahead_result_stealer (q : Nat) (w : World) : (nilAhead 249 98 (.pointer (some ⟨q, 0, none⟩)) "Result").run Try.prog w = .ok (some false) w := by kernel_rfl

end Go.Proofs.Ytplifdmfoeejaaa

namespace Go.Proofs.Ytplifdmfoeejaaa
open Go Go.RowKit
set_option linter.unusedSimpArgs false

theorem steal_res (s : St) (f : Fra) : (if s.hit f.qt f.fv then (⟨true, 1, wrap64 f.fw⟩ : Res) else ⟨true, 4, 0⟩).dn = true := by
  split <;> rfl
theorem steal_keeps : Keeps stealS StealOk := by
  refine ⟨fun s f hs h => ?_, fun s f hs h hd => ?_, fun s f hs h => ?_, fun s f h => ?_, fun s f hd => ?_, fun s f => ?_, fun s f => ?_⟩
  · obtain ⟨hl, hu, hv, hq⟩ := h
    unfold stealS
    split
    · exact go_N hs _ _ _ (fun x hx => hx)
    split
    · split <;> exact go_N hs _ _ _ (fun x hx => hx)
    split
    · exact go_N hs _ _ _ (fun x hx => hx)
    · show (s.go 3 f.qt (fun x => if x = f.fv then add1 f.fv else x)).N
      apply go_N hs
      intro x hx
      show 0 ≤ if x = f.fv then add1 f.fv else x
      split
      · exact u64_nn _
      · exact hx
  · obtain ⟨hl, hu, hv, hq⟩ := h
    revert hd
    unfold stealS
    split
    · intro _
      exact ⟨.inr (.inl rfl), hu, hs _, hq⟩
    split
    · split
      · intro hd
        exact absurd hd (by simp)
      · intro _
        exact ⟨.inr (.inr (.inl rfl)), hs _, hv, hq⟩
    split
    · intro _
      exact ⟨.inr (.inr (.inr rfl)), hu, hv, hq⟩
    · intro hd
      exact absurd ((steal_res s f).symm.trans hd) (by simp)
  · obtain ⟨hl, hu, hv, hq⟩ := h
    unfold stealS
    split
    · exact ⟨hu, hs _⟩
    split
    · split <;> exact ⟨hs _, hv⟩
    split <;> exact ⟨hu, hv⟩
  · unfold stealS
    split
    · exact go_c _ _ _ h
    split
    · split <;> exact go_c _ _ _ h
    split <;> exact go_c _ _ _ h
  · revert hd
    unfold stealS
    split
    · intro _; exact ⟨rfl, rfl⟩
    split
    · split
      · intro hd; exact absurd hd (by simp)
      · intro _; exact ⟨rfl, rfl⟩
    split
    · intro _; exact ⟨rfl, rfl⟩
    · intro hd; exact absurd ((steal_res s f).symm.trans hd) (by simp)
  · unfold stealS
    split
    · exact ⟨rfl, rfl, rfl⟩
    split
    · split <;> exact ⟨rfl, rfl, rfl⟩
    split <;> exact ⟨rfl, rfl, rfl⟩
  · unfold stealS
    split
    · exact go_len _ _ _ _
    split
    · split <;> exact go_len _ _ _ _
    split <;> exact go_len _ _ _ _
end Go.Proofs.Ytplifdmfoeejaaa

namespace Go.Proofs.Ytplifdmfoeejaaa
open Go Go.RowKit Go.Shelf
set_option linter.unusedSimpArgs false

/-- What its loop keeps. -/
def AloR_stealer (w : World) (p m k g cap : Nat) (s' : St) (t d : Int) (hd : List Value) (rv ev : Value) (q : Nat) (r : Res) (N : Nat) (i : Value) (wr : World) : Prop :=
  ∃ (j : Nat) (s : St) (x : Fra), j ≤ 20 ∧ i = .int .i64 j ∧ PE wr p m k g cap s t d hd rv ev ∧ OB wr q 100 [.int .u64 x.fw] x 0 0 ∧ s.N ∧ StealOk x ∧ (∃ M, runS stealS (20 - j) s x = some (s', r, M) ∧ M + j = N) ∧ Fr [m, g, q] w wr
set_option maxRecDepth 100000 in
set_option maxHeartbeats 4000000 in
theorem alone_stealer {w : World} {p m k g cap : Nat} {s s' : St} {t d : Int} {hd : List Value} {rv ev : Value} {q : Nat} {x : Fra} {r : Res} {N : Nat} (hp : PE w p m k g cap s t d hd rv ev) (h : OB w q 100 [.int .u64 x.fw] x 0 0) (hn : s.N) (hk : StealOk x) (hr : runS stealS 20 s x = some (s', r, N)) :
    Calls Try.prog 12 #[.pointer (some ⟨p, 0, none⟩), .iface 98 (.pointer (some ⟨q, 0, none⟩)), .int .i64 20] w (Aloned w p m k g cap s' t d hd rv ev q r N) := by
  have HST := Lib.hid (show AloR_stealer w p m k g cap s' t d hd rv ev q r N (.int .i64 0) w from ⟨0, s, x, by omega, rfl, hp, h, hn, hk, ⟨N, hr, rfl⟩, Fr.refl _ _⟩)
  clear hp h hn hk hr
  have km := meth_step_stealer q
  have ka := ahead_step_stealer q
  have kr := meth_result_stealer q
  have kb := ahead_result_stealer q
  go_enter Try.func12, Try.ntmps12
  go_wp2_with fail
  go_loopw [8] (fun i wr => AloR_stealer w p m k g cap s' t d hd rv ev q r N i wr) (fun i _ => 20 - (intOf i).toNat)
  case atStart => exact HST.out
  case round =>
    clear HST
    obtain ⟨j, sj, x, hj, rfl, hp, ho, hn, hk, ⟨M, hr, hM⟩, hf⟩ := hrel
    have hj20 : j < 20 := by
      rcases Nat.lt_or_ge j 20 with h | h
      · exact h
      · obtain rfl : j = 20 := by omega
        simp [runS] at hr
    obtain ⟨l, hl⟩ : ∃ l, 20 - j = l + 1 := ⟨19 - j, by omega⟩
    rw [hl] at hr
    have HP := Lib.hid hp
    have HO := Lib.hid ho
    have HK := Lib.hid (And.intro hn (And.intro hk (And.intro hl hM)))
    have HR := Lib.hid hr
    have HF := Lib.hid hf
    clear hp ho hn hk hr hf hl hM
    have ej : wrap64 ((j : Int) + 1) = ((j + 1 : Nat) : Int) := by unfold wrap64; omega
    have hlt : (j : Int) < 20 := by omega
    have HS := Lib.hid (stealer_any HP.out HO.out HK.out.2.1.1 HK.out.2.1.2.2.1 HK.out.2.1.2.2.2)
    cases hdn : (stealS sj x).2.2.dn with
    | true =>
      obtain ⟨e1, e2, e3⟩ := runS_end HR.out hdn
      go_wp2_with fail
      (with_reducible refine HS.out.mono ?_)
      rintro e w1 ⟨rfl, hp1, hb1, hf1⟩
      have HB1 := Lib.hid hb1
      have HQ := Lib.hid (And.intro e1 (And.intro e2 e3))
      have HP1 := Lib.hid hp1
      have HF1 := Lib.hid (HF.out.trans hf1)
      clear hb1 hp1 hf1 e1 e2 e3
      rw [hdn]
      go_wp2_with fail
      (with_reducible refine (oresult_any HB1.out).mono ?_)
      rintro e w2 ⟨rfl, nd, rfl⟩
      go_wp2_with fail
      go_ret3
      obtain ⟨e1, e2, e3⟩ := HQ.out
      have eN : j + 1 = N := by have := HK.out.2.2.2; omega
      subst eN
      rw [← e2]
      have hP := HP1.out.drewN nd
      rw [e1] at hP
      exact ⟨rfl, hP, HF1.out.drewN nd⟩
    | false =>
      obtain ⟨M2, e1, e2⟩ := runS_on HR.out hdn
      have HQ := Lib.hid (And.intro e1 e2)
      clear e1 e2
      go_wp2_with fail
      (with_reducible refine HS.out.mono ?_)
      rintro e w1 ⟨rfl, hp1, hb1, hf1⟩
      rw [hdn] at hb1
      have HB1 := Lib.hid hb1
      have HP1 := Lib.hid hp1
      have HF1 := Lib.hid (HF.out.trans hf1)
      clear hb1 hp1 hf1
      rw [hdn]
      go_wp2_with fail
      go_roundw
      case rel =>
        obtain ⟨e1, e2⟩ := HQ.out
        have hz := steal_keeps.z sj x hdn
        have hb := HB1.out
        simp only [Bool.false_eq_true, if_false] at hb
        rw [hz.1, hz.2] at hb
        refine ⟨j + 1, (stealS sj x).1, (stealS sj x).2.1, by omega, by go_num, HP1.out, ?_, steal_keeps.n _ _ HK.out.1 HK.out.2.1, steal_keeps.o _ _ HK.out.1 HK.out.2.1 hdn, ⟨M2, ?_, ?_⟩, HF1.out⟩
        · exact hb
        · rw [show 20 - (j + 1) = l by have := HK.out.2.2.1; omega]
          exact e1
        · have := HK.out.2.2.2
          omega
      case measure => simp [intOf]; omega

end Go.Proofs.Ytplifdmfoeejaaa
