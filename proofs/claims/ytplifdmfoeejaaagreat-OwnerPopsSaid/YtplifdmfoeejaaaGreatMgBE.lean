/-
  Slices of uint64 that a call reads. No function is named.
  workstealmatch.Bare: two equal environments with the given words.
  workstealmatch.Alone of the machines of the owner. (Written by wip/gen_alone.py.)
  Contract of the keep's Number.
-/
import Derived.Test.YtplifdmfoeejaaaGreatMgAA
import Derived.Test.YtplifdmfoeejaaaGreatMgAJ
import Derived.Test.YtplifdmfoeejaaaGreatEnvB
import Derived.Test.YtplifdmfoeejaaaGreatMgAW
import Derived.Test.YtplifdmfoeejaaaGreatMgAV
import Derived.LoopTactic
import Derived.OwnWalk
import Derived.Test.YtplifdmfoeejaaaGreatMgBC
import Derived.Test.YtplifdmfoeejaaaGreatMgAG
import Derived.Deep.QuietTactic
import Derived.BigQuiet
import Derived.Lib.Hide
namespace Go.Proofs.YtplifdmfoeejaaaGreat
open Go Go.RowKit

/-- The slice (a, n) reads as the words X. -/
def InW (w : World) (a : Option Addr) (n : Nat) (X : List Int) : Prop :=
  X.length = n ∧ n ≤ maxLen ∧ ∀ i, i < n → ∃ x : Addr, a = some x ∧ x.block < w.heap.size ∧ w.cell? (x.add i) = some (.int .u64 (X.getD i 0))
theorem InW.below {w w' : World} {a : Option Addr} {n : Nat} {X : List Int} (h : InW w a n X) (hb : Below w.heap.size w w') : InW w' a n X :=
  ⟨h.1, h.2.1, fun i hi => by
    obtain ⟨x, e, hx, hc⟩ := h.2.2 i hi
    exact ⟨x, e, Nat.lt_of_lt_of_le hx hb.size, (hb.cell (by rw [block_add]; exact hx)).trans hc⟩⟩
theorem InW.cell {w : World} {x : Addr} {n i : Nat} {X : List Int} (h : InW w (some x) n X) (hi : i < n) : w.cell? (x.add i) = some (.int .u64 (X.getD i 0)) := by
  obtain ⟨y, e, _, hc⟩ := h.2.2 i hi
  cases e
  exact hc
theorem Row.inW {w : World} {g n cap : Nat} {X : List Int} (h : Row w g n cap X) : InW w (some ⟨g, 0, none⟩) n X :=
  ⟨h.len, Nat.le_trans h.le h.max, fun i hi => ⟨_, rfl, h.lt, by
    have e : (⟨g, 0, none⟩ : Addr).add i = ⟨g, i, none⟩ := by unfold Addr.add; split <;> simp_all
    rw [e]
    exact h.cell hi⟩⟩
end Go.Proofs.YtplifdmfoeejaaaGreat

namespace Go.Proofs.YtplifdmfoeejaaaGreat
open Go Go.RowKit Go.Shelf
set_option linter.unusedSimpArgs false

abbrev nilV : Value := .slice none 0 0
/-- What Bare gives. -/
def BareD (n : Nat) (X : List Int) (w : World) (e : Ending) (w' : World) : Prop :=
  ∃ p m k g q ag acap s, e = .returned (.tuple #[.pointer (some ⟨p, 0, none⟩), .pointer (some ⟨q, 0, none⟩), .bool true]) ∧ Duo w' w.heap.size p m k g n hd0 nilV nilV q (bareA ag acap) s s 0 0 [] [] [] [] ∧ s.X = X ∧ s.c = n ∧ Below w.heap.size w w'
/-- What its loop keeps: j words are stored. -/
def BareL (w : World) (n : Nat) (X : List Int) (p m k g q ag acap : Nat) (i : Value) (wr : World) : Prop :=
  ∃ (j : Nat) (s : St), j ≤ n ∧ i = .int .i64 j ∧ Duo wr w.heap.size p m k g n hd0 nilV nilV q (bareA ag acap) s s 0 0 [] [] [] [] ∧ s.X = X.take j ++ List.replicate (n - j) 0 ∧ s.c = j ∧ Below w.heap.size w wr

theorem bare_fill (X : List Int) (n j : Nat) (hl : X.length = n) (hj : j < n) : (X.take j ++ List.replicate (n - j) 0).set j (X.getD j 0) = X.take (j + 1) ++ List.replicate (n - (j + 1)) 0 := by
  rw [List.set_append_right _ _ (by simp; omega), List.length_take, Nat.min_eq_left (by omega), Nat.sub_self, show n - j = (n - (j + 1)) + 1 by omega, List.replicate_succ, List.set_cons_zero, List.take_add_one, List.append_assoc]
  rw [List.getD_eq_getElem?_getD, List.getElem?_eq_getElem (by omega)]
  rfl

set_option maxRecDepth 100000 in
set_option maxHeartbeats 8000000 in
theorem mbare_any {w : World} {a : Option Addr} {n : Nat} {X : List Int} (h : InW w a n X) (c : Nat) (hn : n ≤ 1000) :
    Calls Tryz.prog 10 #[.slice a n c] w (BareD n X w) := by
  have hsz : sizeS (n : Int) = n := by unfold sizeS; split <;> (try split) <;> omega
  have HIN := Lib.hid h
  have HR := Lib.hid (fun W : World => bare_any (n : Int) W)
  have HP := Lib.hid (fun W : World => pbare_any (n : Int) W)
  rw [hsz] at HR HP
  clear h hsz
  go_enter Tryz.func10, Tryz.ntmps10
  go_wp2_with fail
  (with_reducible refine (HR.out _).mono ?_)
  rintro e w1 ⟨q, ag, acap, rfl, hf, hb⟩
  have HF := Lib.hid hf
  have HB := Lib.hid hb
  clear hf hb HR
  go_wp2_with fail
  (with_reducible refine (HP.out _).mono ?_)
  rintro e w2 ⟨p, m, k, g, rfl, hp, hb, l1, l2, l3, l4⟩
  have hs1 := HB.out.size
  have hgl := HF.out.m.row.lt
  have hd : Duo w2 w.heap.size p m k g n hd0 nilV nilV q (bareA ag acap) (St.new n) (St.new n) 0 0 [] [] [] [] :=
    ⟨hp, World.ownsRow_nil _ _ _ _, ⟨[], rfl, World.ownsRow_nil _ _ _ _, fun i hi => by simp at hi⟩, HF.out.below hb, by intro e; have : ag < w1.heap.size := hgl; have : g = ag := e; omega, by intro x hx; simp [Value.ownBlock] at hx, by intro x hx; simp [Value.ownBlock] at hx, by omega, by omega, by omega, by omega⟩
  have D2 := Lib.hid hd
  have B2 := Lib.hid (HB.out.trans (hb.mono hs1))
  have hln : (St.new n).X.length = n := by simp [St.new]
  have HLN := Lib.hid hln
  clear hp hb l1 l2 l3 l4 hs1 hgl hd HF HB HP
  have d20 : w2.drew.cell? ⟨p, 20, none⟩ = some (.pointer (some ⟨m, 0, none⟩)) := D2.out.e.at20
  have d21 : w2.drew.cell? ⟨p, 21, none⟩ = some (.pointer (some ⟨k, 0, none⟩)) := D2.out.e.at21
  have d11 : w2.drew.cell? ⟨q, 11, none⟩ = some (.slice (some ⟨ag, 0, none⟩) n acap) := by rw [← hln]; exact D2.out.f.m.blk.at_ 11
  have KS := Lib.hid (show Calls Tryz.prog 23 #[.pointer (some ⟨m, 0, none⟩)] w2.drew (fun e V' => e = .returned (.int .i64 n) ∧ w2.drew = V') from hln ▸ msize_any (D2.out.drewN 1).e.mem)
  clear hln
  go_wp2_with fail
  go_region_held3 (fun w' => w'.cell? ⟨p, 20, none⟩ = some (.pointer (some ⟨m, 0, none⟩)) ∧ w'.cell? ⟨p, 21, none⟩ = some (.pointer (some ⟨k, 0, none⟩)) ∧ w'.cell? ⟨q, 11, none⟩ = some (.slice (some ⟨ag, 0, none⟩) n acap)) ((first | exact ⟨d20, d21, d11⟩ | go_keep))
    ((go_at_call 23
      refine KS.out.mono ?_
      rintro e u ⟨rfl, rfl⟩))
  have D3 := Lib.hid (D2.out.drewN 1)
  have B3 := Lib.hid (below_drew B2.out)
  clear d20 d21 d11 KS D2 B2
  go_wp2_with fail
  go_loopw [7] (fun i wr => BareL w n X p m k g q ag acap i wr) (fun i _ => n - (intOf i).toNat)
  case atStart => exact ⟨0, St.new n, by omega, rfl, D3.out, by simp [St.new], rfl, B3.out⟩
  case round =>
    clear D3 B3
    obtain ⟨j, s, hj, rfl, hd, hX, hc, hb⟩ := hrel
    have hlen : s.X.length = n := by rw [hX]; simp [HIN.out.1]; omega
    have e11 : wr.cell? ⟨q, 11, none⟩ = some (.slice (some ⟨ag, 0, none⟩) n acap) := by rw [← hlen]; exact hd.f.m.blk.at_ 11
    have D := Lib.hid hd
    have BB := Lib.hid hb
    have HX := Lib.hid (And.intro hX (And.intro hc hlen))
    clear hd hb hX hc hlen
    by_cases hlt : j < n
    · obtain ⟨x, rfl, hxl, hxc⟩ := (HIN.out.below BB.out).2.2 j hlt
      obtain ⟨b, hbv⟩ : ∃ b, X.getD j 0 = b := ⟨_, rfl⟩
      rw [hbv] at hxc
      have HBV := Lib.hid hbv
      clear hbv
      have D1 := Lib.hid (D.out.drewN 1)
      have y0 : wr.drew.cell? (x.add j) = some (.int .u64 b) := hxc
      have hxl' : (x.add j).block < wr.drew.heap.size := by rw [block_add]; exact hxl
      have HXL := Lib.hid hxl'
      clear hxl hxl'
      go_wp2_with fail
      go_region_held3 (fun w' => w'.cell? (x.add j) = some (.int .u64 b)) ((first | exact y1 | exact y0 | go_keep))
        ((go_at_call 24
          refine (eacc_store D1.out.f.m (j := j) (by rw [HX.out.2.2]; exact hlt) b 0).mono ?_
          rintro e W2 ⟨rfl, hm, hf⟩
          have y1 : W2.cell? (x.add j) = some (.int .u64 b) := by rw [← HBV.out]; exact (HIN.out.below (below_of_fr (below_drew BB.out) hf D1.out.lowR)).cell hlt
          have D2 := Lib.hid (D1.out.racc hm hf)
          have B2 := Lib.hid (below_of_fr (below_drew BB.out) hf D1.out.lowR)
          clear hm hf))
      clear hxc y0 e11
      have D3 := Lib.hid (D2.out.drewN 1)
      have z0 : W2.drew.cell? (x.add j) = some (.int .u64 b) := y1
      have z20 : W2.drew.cell? ⟨p, 20, none⟩ = some (.pointer (some ⟨m, 0, none⟩)) := D3.out.e.at20
      clear y1
      go_wp2_with fail
      go_region_held3 (fun w' => w'.cell? (x.add j) = some (.int .u64 b) ∧ w'.cell? ⟨p, 20, none⟩ = some (.pointer (some ⟨m, 0, none⟩))) ((first | exact ⟨z1, z21⟩ | exact ⟨z0, z20⟩ | go_keep))
        ((go_at_call 25
          refine (store_any D3.out.e.mem _ _).mono ?_
          rintro e W3 ⟨rfl, hm, hf⟩
          have z1 : W3.cell? (x.add j) = some (.int .u64 b) := by rw [← HBV.out]; exact (HIN.out.below (below_of_fr (below_drew B2.out) hf D1.out.lowP)).cell hlt
          have D4 := Lib.hid (D3.out.pacc hm hf)
          have z21 : W3.cell? ⟨p, 20, none⟩ = some (.pointer (some ⟨m, 0, none⟩)) := D4.out.e.at20
          have B4 := Lib.hid (below_of_fr (below_drew B2.out) hf D1.out.lowP)
          clear hm hf))
      clear z0 z20 z1 z21
      have hgo : s.go 2 j (fun _ => b) = s.acc 2 j b := by
        unfold St.go
        rw [if_pos (show s.has (j : Int) from ⟨by omega, by rw [HX.out.2.2]; omega⟩), Int.toNat_natCast]
      have HGO := Lib.hid hgo
      clear hgo
      go_wp2_with fail
      go_roundw
      case rel =>
        have hd4 := D4.out
        rw [HGO.out] at hd4
        refine ⟨j + 1, s.acc 2 j b, by omega, by go_num, hd4, ?_, ?_, B4.out⟩
        · show s.X.set j b = _
          rw [HX.out.1, ← HBV.out]
          exact bare_fill X n j HIN.out.1 hlt
        · show wrap64 (s.c + 1) = _
          rw [HX.out.2.1]
          unfold wrap64
          omega
      case measure => simp [intOf]; omega
    · obtain rfl : j = n := by omega
      have hXX : s.X = X := by
        have := HX.out.1
        rw [Nat.sub_self, List.replicate_zero, List.append_nil, List.take_of_length_le (by rw [HIN.out.1]; exact Nat.le_refl _)] at this
        exact this
      have HM := Lib.hid (msame_any D.out.twin (by simp))
      have HXX := Lib.hid hXX
      clear hXX
      go_wp2_with fail
      (with_reducible refine HM.out.mono ?_)
      rintro e w5 ⟨rfl, hb5⟩
      have D5 := Lib.hid (D.out.below hb5)
      have B5 := Lib.hid (BB.out.trans (hb5.mono BB.out.size))
      clear hb5 e11
      go_wp2
      go_ret3
      exact ⟨p, m, k, g, q, ag, acap, s, rfl, D5.out, HXX.out, HX.out.2.1, B5.out⟩
end Go.Proofs.YtplifdmfoeejaaaGreat

namespace Go.Proofs.YtplifdmfoeejaaaGreat
open Go Go.RowKit Go.Shelf
set_option linter.unusedSimpArgs false

/-- A machine's steps until it is done: the state, the result, how many there are. -/
def runS (stp : St → Fra → St × Fra × Res) : Nat → St → Fra → Option (St × Res × Nat)
  | 0, _, _ => none
  | n + 1, s, f => if (stp s f).2.2.dn = true then some ((stp s f).1, (stp s f).2.2, 1) else (runS stp n (stp s f).1 (stp s f).2.1).map fun x => (x.1, x.2.1, x.2.2 + 1)
theorem runS_end {stp : St → Fra → St × Fra × Res} {n N : Nat} {s s' : St} {f : Fra} {r : Res} (h : runS stp (n + 1) s f = some (s', r, N)) (hd : (stp s f).2.2.dn = true) : (stp s f).1 = s' ∧ (stp s f).2.2 = r ∧ N = 1 := by
  unfold runS at h
  rw [if_pos hd] at h
  simp only [Option.some.injEq, Prod.mk.injEq] at h
  exact ⟨h.1, h.2.1, h.2.2.symm⟩
theorem runS_on {stp : St → Fra → St × Fra × Res} {n N : Nat} {s s' : St} {f : Fra} {r : Res} (h : runS stp (n + 1) s f = some (s', r, N)) (hd : (stp s f).2.2.dn = false) : ∃ M, runS stp n (stp s f).1 (stp s f).2.1 = some (s', r, M) ∧ N = M + 1 := by
  unfold runS at h
  rw [if_neg (by rw [hd]; decide)] at h
  cases h2 : runS stp n (stp s f).1 (stp s f).2.1 with
  | none => rw [h2] at h; simp at h
  | some x =>
    rw [h2] at h
    obtain ⟨a, b, c⟩ := x
    simp only [Option.map_some, Option.some.injEq, Prod.mk.injEq] at h
    obtain ⟨rfl, rfl, rfl⟩ := h
    exact ⟨c, rfl, rfl⟩
/-- What Alone gives. -/
def Aloned (w : World) (p m k g cap : Nat) (s' : St) (t d : Int) (hd : List Value) (rv ev : Value) (q : Nat) (r : Res) (N : Nat) (e : Ending) (w' : World) : Prop :=
  e = .returned (.tuple #[.int .i64 r.cd, .int .i64 r.vl, .int .i64 N]) ∧ PE w' p m k g cap s' t d hd rv ev ∧ Fr [m, g, q] w w'

/-- What its loop keeps. -/
def AloR_pusher (w : World) (p m k g cap : Nat) (s' : St) (t d : Int) (hd : List Value) (rv ev : Value) (q : Nat) (r : Res) (N : Nat) (i : Value) (wr : World) : Prop :=
  ∃ (j : Nat) (s : St) (x : Fra), j ≤ 20 ∧ i = .int .i64 j ∧ PE wr p m k g cap s t d hd rv ev ∧ OB wr q 96 [.int .i64 x.fa] x 0 0 ∧ s.N ∧ PushOk x ∧ (∃ M, runS pushS (20 - j) s x = some (s', r, M) ∧ M + j = N) ∧ Fr [m, g, q] w wr
set_option maxRecDepth 100000 in
set_option maxHeartbeats 4000000 in
theorem alone_pusher {w : World} {p m k g cap : Nat} {s s' : St} {t d : Int} {hd : List Value} {rv ev : Value} {q : Nat} {x : Fra} {r : Res} {N : Nat} (hp : PE w p m k g cap s t d hd rv ev) (h : OB w q 96 [.int .i64 x.fa] x 0 0) (hn : s.N) (hk : PushOk x) (hr : runS pushS 20 s x = some (s', r, N)) :
    Calls Tryz.prog 27 #[.pointer (some ⟨p, 0, none⟩), .iface 89 (.pointer (some ⟨q, 0, none⟩)), .int .i64 20] w (Aloned w p m k g cap s' t d hd rv ev q r N) := by
  have HST := Lib.hid (show AloR_pusher w p m k g cap s' t d hd rv ev q r N (.int .i64 0) w from ⟨0, s, x, by omega, rfl, hp, h, hn, hk, ⟨N, hr, rfl⟩, Fr.refl _ _⟩)
  clear hp h hn hk hr
  have km := meth_step_pusher q
  have ka := ahead_step_pusher q
  have kr := meth_result_pusher q
  have kb := ahead_result_pusher q
  go_enter Tryz.func27, Tryz.ntmps27
  go_wp2_with fail
  go_loopw [8] (fun i wr => AloR_pusher w p m k g cap s' t d hd rv ev q r N i wr) (fun i _ => 20 - (intOf i).toNat)
  case atStart => exact HST.out
  case round =>
    clear HST
    obtain ⟨j, sj, x, hj, rfl, hp, ho, hn, hk, ⟨M, hr, hM⟩, hf⟩ := hrel
    have hj20 : j < 20 := by
      rcases Nat.lt_or_ge j 20 with h | h
      · exact h
      · obtain rfl : j = 20 := by omega
        simp [runS] at hr
    obtain ⟨l, hl⟩ : ∃ l, 20 - j = l + 1 := ⟨19 - j, by omega⟩
    rw [hl] at hr
    have HP := Lib.hid hp
    have HO := Lib.hid ho
    have HK := Lib.hid (And.intro hn (And.intro hk (And.intro hl hM)))
    have HR := Lib.hid hr
    have HF := Lib.hid hf
    clear hp ho hn hk hr hf hl hM
    have ej : wrap64 ((j : Int) + 1) = ((j + 1 : Nat) : Int) := by unfold wrap64; omega
    have hlt : (j : Int) < 20 := by omega
    have HS := Lib.hid (pusher_any HP.out HO.out HK.out.2.1.1 HK.out.2.1.2.1 HK.out.2.1.2.2.2)
    cases hdn : (pushS sj x).2.2.dn with
    | true =>
      obtain ⟨e1, e2, e3⟩ := runS_end HR.out hdn
      go_wp2_with fail
      (with_reducible refine HS.out.mono ?_)
      rintro e w1 ⟨rfl, hp1, hb1, hf1⟩
      have HB1 := Lib.hid hb1
      have HQ := Lib.hid (And.intro e1 (And.intro e2 e3))
      have HP1 := Lib.hid hp1
      have HF1 := Lib.hid (HF.out.trans hf1)
      clear hb1 hp1 hf1 e1 e2 e3
      rw [hdn]
      go_wp2_with fail
      (with_reducible refine (oresult_any HB1.out).mono ?_)
      rintro e w2 ⟨rfl, nd, rfl⟩
      go_wp2_with fail
      go_ret3
      obtain ⟨e1, e2, e3⟩ := HQ.out
      have eN : j + 1 = N := by have := HK.out.2.2.2; omega
      subst eN
      rw [← e2]
      have hP := HP1.out.drewN nd
      rw [e1] at hP
      exact ⟨rfl, hP, HF1.out.drewN nd⟩
    | false =>
      obtain ⟨M2, e1, e2⟩ := runS_on HR.out hdn
      have HQ := Lib.hid (And.intro e1 e2)
      clear e1 e2
      go_wp2_with fail
      (with_reducible refine HS.out.mono ?_)
      rintro e w1 ⟨rfl, hp1, hb1, hf1⟩
      rw [hdn] at hb1
      have HB1 := Lib.hid hb1
      have HP1 := Lib.hid hp1
      have HF1 := Lib.hid (HF.out.trans hf1)
      clear hb1 hp1 hf1
      rw [hdn]
      go_wp2_with fail
      go_roundw
      case rel =>
        obtain ⟨e1, e2⟩ := HQ.out
        have hz := push_keeps.z sj x hdn
        have hb := HB1.out
        simp only [Bool.false_eq_true, if_false] at hb
        rw [hz.1, hz.2] at hb
        refine ⟨j + 1, (pushS sj x).1, (pushS sj x).2.1, by omega, by go_num, HP1.out, ?_, push_keeps.n _ _ HK.out.1 HK.out.2.1, push_keeps.o _ _ HK.out.1 HK.out.2.1 hdn, ⟨M2, ?_, ?_⟩, HF1.out⟩
        · rw [(push_keeps.q sj x).1]
          exact hb
        · rw [show 20 - (j + 1) = l by have := HK.out.2.2.1; omega]
          exact e1
        · have := HK.out.2.2.2
          omega
      case measure => simp [intOf]; omega

/-- What its loop keeps. -/
def AloR_popper (w : World) (p m k g cap : Nat) (s' : St) (t d : Int) (hd : List Value) (rv ev : Value) (q : Nat) (r : Res) (N : Nat) (i : Value) (wr : World) : Prop :=
  ∃ (j : Nat) (s : St) (x : Fra), j ≤ 20 ∧ i = .int .i64 j ∧ PE wr p m k g cap s t d hd rv ev ∧ OB wr q 99 [] x 0 0 ∧ s.N ∧ PopOk x ∧ (∃ M, runS popS (20 - j) s x = some (s', r, M) ∧ M + j = N) ∧ Fr [m, g, q] w wr
set_option maxRecDepth 100000 in
set_option maxHeartbeats 4000000 in
theorem alone_popper {w : World} {p m k g cap : Nat} {s s' : St} {t d : Int} {hd : List Value} {rv ev : Value} {q : Nat} {x : Fra} {r : Res} {N : Nat} (hp : PE w p m k g cap s t d hd rv ev) (h : OB w q 99 [] x 0 0) (hn : s.N) (hk : PopOk x) (hr : runS popS 20 s x = some (s', r, N)) :
    Calls Tryz.prog 27 #[.pointer (some ⟨p, 0, none⟩), .iface 97 (.pointer (some ⟨q, 0, none⟩)), .int .i64 20] w (Aloned w p m k g cap s' t d hd rv ev q r N) := by
  have HST := Lib.hid (show AloR_popper w p m k g cap s' t d hd rv ev q r N (.int .i64 0) w from ⟨0, s, x, by omega, rfl, hp, h, hn, hk, ⟨N, hr, rfl⟩, Fr.refl _ _⟩)
  clear hp h hn hk hr
  have km := meth_step_popper q
  have ka := ahead_step_popper q
  have kr := meth_result_popper q
  have kb := ahead_result_popper q
  go_enter Tryz.func27, Tryz.ntmps27
  go_wp2_with fail
  go_loopw [8] (fun i wr => AloR_popper w p m k g cap s' t d hd rv ev q r N i wr) (fun i _ => 20 - (intOf i).toNat)
  case atStart => exact HST.out
  case round =>
    clear HST
    obtain ⟨j, sj, x, hj, rfl, hp, ho, hn, hk, ⟨M, hr, hM⟩, hf⟩ := hrel
    have hj20 : j < 20 := by
      rcases Nat.lt_or_ge j 20 with h | h
      · exact h
      · obtain rfl : j = 20 := by omega
        simp [runS] at hr
    obtain ⟨l, hl⟩ : ∃ l, 20 - j = l + 1 := ⟨19 - j, by omega⟩
    rw [hl] at hr
    have HP := Lib.hid hp
    have HO := Lib.hid ho
    have HK := Lib.hid (And.intro hn (And.intro hk (And.intro hl hM)))
    have HR := Lib.hid hr
    have HF := Lib.hid hf
    clear hp ho hn hk hr hf hl hM
    have ej : wrap64 ((j : Int) + 1) = ((j + 1 : Nat) : Int) := by unfold wrap64; omega
    have hlt : (j : Int) < 20 := by omega
    have HS := Lib.hid (popper_any HP.out HO.out HK.out.2.1.1 HK.out.2.1.2.2.2)
    cases hdn : (popS sj x).2.2.dn with
    | true =>
      obtain ⟨e1, e2, e3⟩ := runS_end HR.out hdn
      go_wp2_with fail
      (with_reducible refine HS.out.mono ?_)
      rintro e w1 ⟨rfl, hp1, hb1, hf1⟩
      have HB1 := Lib.hid hb1
      have HQ := Lib.hid (And.intro e1 (And.intro e2 e3))
      have HP1 := Lib.hid hp1
      have HF1 := Lib.hid (HF.out.trans hf1)
      clear hb1 hp1 hf1 e1 e2 e3
      rw [hdn]
      go_wp2_with fail
      (with_reducible refine (oresult_any HB1.out).mono ?_)
      rintro e w2 ⟨rfl, nd, rfl⟩
      go_wp2_with fail
      go_ret3
      obtain ⟨e1, e2, e3⟩ := HQ.out
      have eN : j + 1 = N := by have := HK.out.2.2.2; omega
      subst eN
      rw [← e2]
      have hP := HP1.out.drewN nd
      rw [e1] at hP
      exact ⟨rfl, hP, HF1.out.drewN nd⟩
    | false =>
      obtain ⟨M2, e1, e2⟩ := runS_on HR.out hdn
      have HQ := Lib.hid (And.intro e1 e2)
      clear e1 e2
      go_wp2_with fail
      (with_reducible refine HS.out.mono ?_)
      rintro e w1 ⟨rfl, hp1, hb1, hf1⟩
      rw [hdn] at hb1
      have HB1 := Lib.hid hb1
      have HP1 := Lib.hid hp1
      have HF1 := Lib.hid (HF.out.trans hf1)
      clear hb1 hp1 hf1
      rw [hdn]
      go_wp2_with fail
      go_roundw
      case rel =>
        obtain ⟨e1, e2⟩ := HQ.out
        have hz := pop_keeps.z sj x hdn
        have hb := HB1.out
        simp only [Bool.false_eq_true, if_false] at hb
        rw [hz.1, hz.2] at hb
        refine ⟨j + 1, (popS sj x).1, (popS sj x).2.1, by omega, by go_num, HP1.out, ?_, pop_keeps.n _ _ HK.out.1 HK.out.2.1, pop_keeps.o _ _ HK.out.1 HK.out.2.1 hdn, ⟨M2, ?_, ?_⟩, HF1.out⟩
        · exact hb
        · rw [show 20 - (j + 1) = l by have := HK.out.2.2.1; omega]
          exact e1
        · have := HK.out.2.2.2
          omega
      case measure => simp [intOf]; omega

end Go.Proofs.YtplifdmfoeejaaaGreat

namespace Go.Proofs.YtplifdmfoeejaaaGreat
open Go Go.RowKit

/-- A number from 0 to n - 1, behind some draws. -/
def NumR (n : Int) (w : World) (e : Ending) (w' : World) : Prop := ∃ y : Nat, (y : Int) < n ∧ e = .returned (.int .i64 y) ∧ ∃ m, w' = w.drewN m

set_option maxHeartbeats 1000000 in
theorem keepnum_any {w : World} {a : Option Addr} {L : Nat} {zs : List Int} (h : InInts w a L zs) (c k : Nat) (hk : k ≤ 1000000) (n : Int) (hn : 1 ≤ n) (hn' : n ≤ 1000000) :
    Calls Tryz.prog 18 #[.slice a L c, .int .i64 k, .int .i64 n] w (NumR n w) := by
  have hmax := h.2.1
  unfold maxLen at hmax
  by_cases hL : L = 0
  · subst hL
    clear h
    go_enter Tryz.func18, Tryz.ntmps18
    go_wp2
    go_ret
    exact ⟨0, by omega, rfl, 0, rfl⟩
  · have hL0 : ((L : Int) == 0) = false := by simp; omega
    have hL1 : (1 : Int) ≤ L := by omega
    have hm : k % L < L := Nat.mod_lt _ (by omega)
    obtain ⟨x, rfl, _, hc⟩ := h.2.2 (k % L) hm
    generalize zs.getD (k % L) 0 = z at hc
    clear h hL
    have hq := fun (d : Int) (u : World) => (rdraw_any d n (by omega) u).mono (fun e w' (h : e = .returned (.int .i64 (drw d n)) ∧ u = w') => (⟨h.1, h.2.symm⟩ : e = .returned (.int .i64 (drw d n)) ∧ w' = u))
    have hmi : (k : Int) % (L : Int) < (L : Int) := Int.emod_lt_of_pos _ (by omega)
    have hmi0 : 0 ≤ (k : Int) % (L : Int) := Int.emod_nonneg _ (by omega)
    have hd0 : 0 ≤ (k : Int) / (L : Int) := Int.ediv_nonneg (by omega) (by omega)
    have hd1 : (k : Int) / (L : Int) ≤ k := Int.ediv_le_self _ (by omega)
    have e0 : 0 ≤ (k : Int) / (L : Int) % 7 := Int.emod_nonneg _ (by omega)
    have e1 : (k : Int) / (L : Int) % 7 < 7 := Int.emod_lt_of_pos _ (by omega)
    go_enter Tryz.func18, Tryz.ntmps18
    go_wp2_with fail
    go_quiet ((go_at_call 34; exact Calls.quiet_of_same (hq _ _)))
    obtain ⟨g0, g1⟩ := drw_in (wrap64 (z.tdiv (1 + (k : Int) / (L : Int) % 7))) n hn
    generalize drw (wrap64 (z.tdiv (1 + (k : Int) / (L : Int) % 7))) n = y at *
    obtain ⟨y, rfl⟩ : ∃ u : Nat, y = (u : Int) := ⟨y.toNat, by omega⟩
    go_wp2
    go_ret
    exact ⟨y, g1, rfl, _, rfl⟩

end Go.Proofs.YtplifdmfoeejaaaGreat
