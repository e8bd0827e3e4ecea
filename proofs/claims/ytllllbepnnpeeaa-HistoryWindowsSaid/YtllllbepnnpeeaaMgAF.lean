/-
  Plain mathematics: the steps of a machine until it is done. No function is named.
  workstealmatch.Alone of the machines of the owner. (Written by wip/gen_alone.py.)
  A block that begins with parts.Lines: the methods that it embeds. (Written by wip/gen_bm.py.)
  Package memory: Or.
  Package memory: And.
  Pure: the word of one bit; the lines of a set and of a clear; what they keep. No function and no type is named.
  Package bitmap: at.
-/
import Derived.Test.YtllllbepnnpeeaaMgAE
import Derived.LoopTactic
import Derived.OwnWalk
import Derived.Test.YtllllbepnnpeeaaMgAB
import Derived.Deep.QuietTactic
import Derived.BigQuiet
import Derived.RegionTactic
import Derived.Laws.BitsAllLaws
namespace Go.Proofs.Ytllllbepnnpeeaa
open Go Go.RowKit
set_option linter.unusedSimpArgs false

/-- A machine's steps until it is done: the state, the result, how many there are. -/
def runS (stp : St → Fra → St × Fra × Res) : Nat → St → Fra → Option (St × Res × Nat)
  | 0, _, _ => none
  | n + 1, s, f => if (stp s f).2.2.dn = true then some ((stp s f).1, (stp s f).2.2, 1) else (runS stp n (stp s f).1 (stp s f).2.1).map fun x => (x.1, x.2.1, x.2.2 + 1)
theorem runS_end {stp : St → Fra → St × Fra × Res} {n N : Nat} {s s' : St} {f : Fra} {r : Res} (h : runS stp (n + 1) s f = some (s', r, N)) (hd : (stp s f).2.2.dn = true) : (stp s f).1 = s' ∧ (stp s f).2.2 = r ∧ N = 1 := by
  unfold runS at h
  rw [if_pos hd] at h
  simp only [Option.some.injEq, Prod.mk.injEq] at h
  exact ⟨h.1, h.2.1, h.2.2.symm⟩
theorem runS_on {stp : St → Fra → St × Fra × Res} {n N : Nat} {s s' : St} {f : Fra} {r : Res} (h : runS stp (n + 1) s f = some (s', r, N)) (hd : (stp s f).2.2.dn = false) : ∃ M, runS stp n (stp s f).1 (stp s f).2.1 = some (s', r, M) ∧ N = M + 1 := by
  unfold runS at h
  rw [if_neg (by rw [hd]; decide)] at h
  cases h2 : runS stp n (stp s f).1 (stp s f).2.1 with
  | none => rw [h2] at h; simp at h
  | some x =>
    rw [h2] at h
    obtain ⟨a, b, c⟩ := x
    simp only [Option.map_some, Option.some.injEq, Prod.mk.injEq] at h
    obtain ⟨rfl, rfl, rfl⟩ := h
    exact ⟨c, rfl, rfl⟩
end Go.Proofs.Ytllllbepnnpeeaa

namespace Go.Proofs.Ytllllbepnnpeeaa
open Go Go.RowKit Go.Shelf
set_option linter.unusedSimpArgs false

/-- What Alone gives. -/
def Aloned (w : World) (p m k g cap : Nat) (s' : St) (t d : Int) (hd : List Value) (rv ev : Value) (q : Nat) (r : Res) (N : Nat) (e : Ending) (w' : World) : Prop :=
  e = .returned (.tuple #[.int .i64 r.cd, .int .i64 r.vl, .int .i64 N]) ∧ PE w' p m k g cap s' t d hd rv ev ∧ Fr [m, g, q] w w'

/-- What its loop keeps. -/
def AloR_pusher (w : World) (p m k g cap : Nat) (s' : St) (t d : Int) (hd : List Value) (rv ev : Value) (q : Nat) (r : Res) (N : Nat) (i : Value) (wr : World) : Prop :=
  ∃ (j : Nat) (s : St) (x : Fra), j ≤ 20 ∧ i = .int .i64 j ∧ PE wr p m k g cap s t d hd rv ev ∧ OB wr q 138 [.int .i64 x.fa] x 0 0 ∧ s.N ∧ PushOk x ∧ (∃ M, runS pushS (20 - j) s x = some (s', r, M) ∧ M + j = N) ∧ Fr [m, g, q] w wr
set_option maxRecDepth 100000 in
set_option maxHeartbeats 4000000 in
theorem alone_pusher {w : World} {p m k g cap : Nat} {s s' : St} {t d : Int} {hd : List Value} {rv ev : Value} {q : Nat} {x : Fra} {r : Res} {N : Nat} (hp : PE w p m k g cap s t d hd rv ev) (h : OB w q 138 [.int .i64 x.fa] x 0 0) (hn : s.N) (hk : PushOk x) (hr : runS pushS 20 s x = some (s', r, N)) :
    Calls Try.prog 18 #[.pointer (some ⟨p, 0, none⟩), .iface 136 (.pointer (some ⟨q, 0, none⟩)), .int .i64 20] w (Aloned w p m k g cap s' t d hd rv ev q r N) := by
  have HST := Lib.hid (show AloR_pusher w p m k g cap s' t d hd rv ev q r N (.int .i64 0) w from ⟨0, s, x, by omega, rfl, hp, h, hn, hk, ⟨N, hr, rfl⟩, Fr.refl _ _⟩)
  clear hp h hn hk hr
  have km := meth_step_pusher q
  have ka := ahead_step_pusher q
  have kr := meth_result_pusher q
  have kb := ahead_result_pusher q
  go_enter Try.func18, Try.ntmps18
  go_wp2_with fail
  go_loopw [8] (fun i wr => AloR_pusher w p m k g cap s' t d hd rv ev q r N i wr) (fun i _ => 20 - (intOf i).toNat)
  case atStart => exact HST.out
  case round =>
    clear HST
    obtain ⟨j, sj, x, hj, rfl, hp, ho, hn, hk, ⟨M, hr, hM⟩, hf⟩ := hrel
    have hj20 : j < 20 := by
      rcases Nat.lt_or_ge j 20 with h | h
      · exact h
      · obtain rfl : j = 20 := by omega
        simp [runS] at hr
    obtain ⟨l, hl⟩ : ∃ l, 20 - j = l + 1 := ⟨19 - j, by omega⟩
    rw [hl] at hr
    have HP := Lib.hid hp
    have HO := Lib.hid ho
    have HK := Lib.hid (And.intro hn (And.intro hk (And.intro hl hM)))
    have HR := Lib.hid hr
    have HF := Lib.hid hf
    clear hp ho hn hk hr hf hl hM
    have ej : wrap64 ((j : Int) + 1) = ((j + 1 : Nat) : Int) := by unfold wrap64; omega
    have hlt : (j : Int) < 20 := by omega
    have HS := Lib.hid (pusher_any HP.out HO.out HK.out.2.1.1 HK.out.2.1.2.1 HK.out.2.1.2.2.2)
    cases hdn : (pushS sj x).2.2.dn with
    | true =>
      obtain ⟨e1, e2, e3⟩ := runS_end HR.out hdn
      go_wp2_with fail
      (with_reducible refine HS.out.mono ?_)
      rintro e w1 ⟨rfl, hp1, hb1, hf1⟩
      have HB1 := Lib.hid hb1
      have HQ := Lib.hid (And.intro e1 (And.intro e2 e3))
      have HP1 := Lib.hid hp1
      have HF1 := Lib.hid (HF.out.trans hf1)
      clear hb1 hp1 hf1 e1 e2 e3
      rw [hdn]
      go_wp2_with fail
      (with_reducible refine (oresult_any HB1.out).mono ?_)
      rintro e w2 ⟨rfl, nd, rfl⟩
      go_wp2_with fail
      go_ret3
      obtain ⟨e1, e2, e3⟩ := HQ.out
      have eN : j + 1 = N := by have := HK.out.2.2.2; omega
      subst eN
      rw [← e2]
      have hP := HP1.out.drewN nd
      rw [e1] at hP
      exact ⟨rfl, hP, HF1.out.drewN nd⟩
    | false =>
      obtain ⟨M2, e1, e2⟩ := runS_on HR.out hdn
      have HQ := Lib.hid (And.intro e1 e2)
      clear e1 e2
      go_wp2_with fail
      (with_reducible refine HS.out.mono ?_)
      rintro e w1 ⟨rfl, hp1, hb1, hf1⟩
      rw [hdn] at hb1
      have HB1 := Lib.hid hb1
      have HP1 := Lib.hid hp1
      have HF1 := Lib.hid (HF.out.trans hf1)
      clear hb1 hp1 hf1
      rw [hdn]
      go_wp2_with fail
      go_roundw
      case rel =>
        obtain ⟨e1, e2⟩ := HQ.out
        have hz := push_keeps.z sj x hdn
        have hb := HB1.out
        simp only [Bool.false_eq_true, if_false] at hb
        rw [hz.1, hz.2] at hb
        refine ⟨j + 1, (pushS sj x).1, (pushS sj x).2.1, by omega, by go_num, HP1.out, ?_, push_keeps.n _ _ HK.out.1 HK.out.2.1, push_keeps.o _ _ HK.out.1 HK.out.2.1 hdn, ⟨M2, ?_, ?_⟩, HF1.out⟩
        · rw [(push_keeps.q sj x).1]
          exact hb
        · rw [show 20 - (j + 1) = l by have := HK.out.2.2.1; omega]
          exact e1
        · have := HK.out.2.2.2
          omega
      case measure => simp [intOf]; omega

/-- What its loop keeps. -/
def AloR_popper (w : World) (p m k g cap : Nat) (s' : St) (t d : Int) (hd : List Value) (rv ev : Value) (q : Nat) (r : Res) (N : Nat) (i : Value) (wr : World) : Prop :=
  ∃ (j : Nat) (s : St) (x : Fra), j ≤ 20 ∧ i = .int .i64 j ∧ PE wr p m k g cap s t d hd rv ev ∧ OB wr q 175 [] x 0 0 ∧ s.N ∧ PopOk x ∧ (∃ M, runS popS (20 - j) s x = some (s', r, M) ∧ M + j = N) ∧ Fr [m, g, q] w wr
set_option maxRecDepth 100000 in
set_option maxHeartbeats 4000000 in
theorem alone_popper {w : World} {p m k g cap : Nat} {s s' : St} {t d : Int} {hd : List Value} {rv ev : Value} {q : Nat} {x : Fra} {r : Res} {N : Nat} (hp : PE w p m k g cap s t d hd rv ev) (h : OB w q 175 [] x 0 0) (hn : s.N) (hk : PopOk x) (hr : runS popS 20 s x = some (s', r, N)) :
    Calls Try.prog 18 #[.pointer (some ⟨p, 0, none⟩), .iface 173 (.pointer (some ⟨q, 0, none⟩)), .int .i64 20] w (Aloned w p m k g cap s' t d hd rv ev q r N) := by
  have HST := Lib.hid (show AloR_popper w p m k g cap s' t d hd rv ev q r N (.int .i64 0) w from ⟨0, s, x, by omega, rfl, hp, h, hn, hk, ⟨N, hr, rfl⟩, Fr.refl _ _⟩)
  clear hp h hn hk hr
  have km := meth_step_popper q
  have ka := ahead_step_popper q
  have kr := meth_result_popper q
  have kb := ahead_result_popper q
  go_enter Try.func18, Try.ntmps18
  go_wp2_with fail
  go_loopw [8] (fun i wr => AloR_popper w p m k g cap s' t d hd rv ev q r N i wr) (fun i _ => 20 - (intOf i).toNat)
  case atStart => exact HST.out
  case round =>
    clear HST
    obtain ⟨j, sj, x, hj, rfl, hp, ho, hn, hk, ⟨M, hr, hM⟩, hf⟩ := hrel
    have hj20 : j < 20 := by
      rcases Nat.lt_or_ge j 20 with h | h
      · exact h
      · obtain rfl : j = 20 := by omega
        simp [runS] at hr
    obtain ⟨l, hl⟩ : ∃ l, 20 - j = l + 1 := ⟨19 - j, by omega⟩
    rw [hl] at hr
    have HP := Lib.hid hp
    have HO := Lib.hid ho
    have HK := Lib.hid (And.intro hn (And.intro hk (And.intro hl hM)))
    have HR := Lib.hid hr
    have HF := Lib.hid hf
    clear hp ho hn hk hr hf hl hM
    have ej : wrap64 ((j : Int) + 1) = ((j + 1 : Nat) : Int) := by unfold wrap64; omega
    have hlt : (j : Int) < 20 := by omega
    have HS := Lib.hid (popper_any HP.out HO.out HK.out.2.1.1 HK.out.2.1.2.2.2)
    cases hdn : (popS sj x).2.2.dn with
    | true =>
      obtain ⟨e1, e2, e3⟩ := runS_end HR.out hdn
      go_wp2_with fail
      (with_reducible refine HS.out.mono ?_)
      rintro e w1 ⟨rfl, hp1, hb1, hf1⟩
      have HB1 := Lib.hid hb1
      have HQ := Lib.hid (And.intro e1 (And.intro e2 e3))
      have HP1 := Lib.hid hp1
      have HF1 := Lib.hid (HF.out.trans hf1)
      clear hb1 hp1 hf1 e1 e2 e3
      rw [hdn]
      go_wp2_with fail
      (with_reducible refine (oresult_any HB1.out).mono ?_)
      rintro e w2 ⟨rfl, nd, rfl⟩
      go_wp2_with fail
      go_ret3
      obtain ⟨e1, e2, e3⟩ := HQ.out
      have eN : j + 1 = N := by have := HK.out.2.2.2; omega
      subst eN
      rw [← e2]
      have hP := HP1.out.drewN nd
      rw [e1] at hP
      exact ⟨rfl, hP, HF1.out.drewN nd⟩
    | false =>
      obtain ⟨M2, e1, e2⟩ := runS_on HR.out hdn
      have HQ := Lib.hid (And.intro e1 e2)
      clear e1 e2
      go_wp2_with fail
      (with_reducible refine HS.out.mono ?_)
      rintro e w1 ⟨rfl, hp1, hb1, hf1⟩
      rw [hdn] at hb1
      have HB1 := Lib.hid hb1
      have HP1 := Lib.hid hp1
      have HF1 := Lib.hid (HF.out.trans hf1)
      clear hb1 hp1 hf1
      rw [hdn]
      go_wp2_with fail
      go_roundw
      case rel =>
        obtain ⟨e1, e2⟩ := HQ.out
        have hz := pop_keeps.z sj x hdn
        have hb := HB1.out
        simp only [Bool.false_eq_true, if_false] at hb
        rw [hz.1, hz.2] at hb
        refine ⟨j + 1, (popS sj x).1, (popS sj x).2.1, by omega, by go_num, HP1.out, ?_, pop_keeps.n _ _ HK.out.1 HK.out.2.1, pop_keeps.o _ _ HK.out.1 HK.out.2.1 hdn, ⟨M2, ?_, ?_⟩, HF1.out⟩
        · exact hb
        · rw [show 20 - (j + 1) = l by have := HK.out.2.2.1; omega]
          exact e1
        · have := HK.out.2.2.2
          omega
      case measure => simp [intOf]; omega

end Go.Proofs.Ytllllbepnnpeeaa

namespace Go.Proofs.Ytllllbepnnpeeaa
open Go Go.RowKit Go.Shelf
set_option linter.unusedSimpArgs false

/-- The cells of lines. -/
abbrev lncells (f : Fra) (cd vl : Int) : List Value := [.int .i64 f.ln, .int .i64 cd, .int .i64 vl]
/-- Block q begins with lines, then post. -/
structure LB (w : World) (q : Nat) (ty : TypeId) (post : List Value) (f : Fra) (cd vl : Int) : Prop where
  blk : Blk w q ty (lncells f cd vl ++ post).toArray
  t1 : ty ≠ 65
  t2 : ty ≠ 134
  t3 : ty ≠ 169
  t4 : ty ≠ 39

section
variable {w w' : World} {q : Nat} {ty : TypeId} {post : List Value} {f f' : Fra} {cd vl : Int}
theorem LB.at_ (h : LB w q ty post f cd vl) (j : Nat) (hj : j < 3) : w.cell? ⟨q, j, none⟩ = (lncells f cd vl)[j]? := by
  rw [h.blk.at_, List.getElem?_toArray, List.getElem?_append_left (by simpa using hj)]
theorem LB.free (h : LB w q ty post f cd vl) (j : Nat) : w.frozen? ⟨q, j, none⟩ = false := h.blk.free j
theorem LB.put (h : LB w q ty post f cd vl) (j : Nat) (hj : j < 3) (u : Value) (f' : Fra) (cd' vl' : Int) (hf : lncells f' cd' vl' = (lncells f cd vl).set j u) : LB (w.setCell ⟨q, j, none⟩ u) q ty post f' cd' vl' := by
  refine ⟨?_, h.t1, h.t2, h.t3, h.t4⟩
  have hb := h.blk.put j u
  rw [List.setIfInBounds_toArray, List.set_append_left _ _ (by simpa using hj), ← hf] at hb
  exact hb
theorem LB.of_same (h : LB w q ty post f cd vl) (e : w'.heap[q]? = w.heap[q]?) : LB w' q ty post f cd vl := ⟨h.blk.of_same e, h.t1, h.t2, h.t3, h.t4⟩
theorem LB.fr {S : List Nat} (h : LB w q ty post f cd vl) (hf : Fr S w w') (hq : q ∉ S) : LB w' q ty post f cd vl := h.of_same (hf.block q h.blk.lt hq)
theorem LB.below (h : LB w q ty post f cd vl) (hb : Below w.heap.size w w') : LB w' q ty post f cd vl := h.of_same (hb.block q h.blk.lt)
theorem LB.drewN (h : LB w q ty post f cd vl) (n : Nat) : LB (w.drewN n) q ty post f cd vl := h.of_same rfl
theorem LB.drew (h : LB w q ty post f cd vl) : LB w.drew q ty post f cd vl := h.of_same rfl
end

section
variable {w w' : World} {p m k g cap : Nat} {s s' : St} {t d : Int} {hd : List Value} {rv ev : Value} {q : Nat} {ty : TypeId} {post : List Value} {f f' : Fra} {cd vl : Int}
theorem LB.ne (h : LB w q ty post f cd vl) (hp : PE w p m k g cap s t d hd rv ev) : q ≠ p ∧ q ≠ m ∧ q ≠ k ∧ q ≠ g := by
  obtain ⟨cur, hb, _⟩ := hp.mem.row.blk
  exact ⟨h.blk.apart hp.blk h.t1, h.blk.apart hp.mem.blk h.t2, h.blk.apart hp.clk h.t3, h.blk.apart hb h.t4⟩
theorem PE.lown (hp : PE w p m k g cap s t d hd rv ev) (h : LB w q ty post f cd vl) (hf : Fr [q] w w') : PE w' p m k g cap s t d hd rv ev := by
  obtain ⟨n1, n2, n3, n4⟩ := h.ne hp
  exact hp.fr hf (by simpa using n1.symm) (by simpa using n2.symm) (by simpa using n3.symm) (by simpa using n4.symm)
theorem LB.acc (h : LB w q ty post f cd vl) (hp : PE w p m k g cap s t d hd rv ev) (hf : Fr [m, g] w w') : LB w' q ty post f cd vl := by
  obtain ⟨n1, n2, n3, n4⟩ := h.ne hp
  exact h.fr hf (by simp [n2, n4])

/-- The line that is next. -/
theorem lline_any (h : LB w q ty post f cd vl) :
    Calls Try.prog 100 #[.pointer (some ⟨q, 0, none⟩)] w fun e w' => e = .returned (.int .i64 f.ln) ∧ w = w' := by
  have c0 : w.cell? ⟨q, 0, none⟩ = some (.int .i64 f.ln) := h.at_ 0 (by omega)
  clear h
  go_enter Try.func100, Try.ntmps100
  go_wp2
  go_ret
  exact ⟨rfl, rfl⟩

/-- The next line. -/
theorem lnext_any (h : LB w q ty post f cd vl) (l : Int) :
    Calls Try.prog 110 #[.pointer (some ⟨q, 0, none⟩), .int .i64 l] w fun e w' => e = .returned (.bool false) ∧ LB w' q ty post { f with ln := l } cd vl ∧ Fr [q] w w' := by
  have c6 : w.cell? ⟨q, 0, none⟩ = some (.int .i64 f.ln) := h.at_ 0 (by omega)
  have k6 := h.free 0
  have H := Lib.hid h
  clear h
  go_enter Try.func110, Try.ntmps110
  go_wp2
  go_ret
  exact ⟨rfl, H.out.put 0 (by omega) (.int .i64 l) { f with ln := l } cd vl rfl, (Fr.refl _ _).setCell (by simp) _⟩

/-- The end. -/
theorem lend_any (h : LB w q ty post f cd vl) (c v : Int) :
    Calls Try.prog 104 #[.pointer (some ⟨q, 0, none⟩), .int .i64 c, .int .i64 v] w fun e w' => e = .returned (.bool true) ∧ LB w' q ty post { f with ln := 0 } c v ∧ Fr [q] w w' := by
  have c6 : w.cell? ⟨q, 0, none⟩ = some (.int .i64 f.ln) := h.at_ 0 (by omega)
  have c7 : w.cell? ⟨q, 1, none⟩ = some (.int .i64 cd) := h.at_ 1 (by omega)
  have c8 : w.cell? ⟨q, 2, none⟩ = some (.int .i64 vl) := h.at_ 2 (by omega)
  have k6 := h.free 0
  have k7 := h.free 1
  have k8 := h.free 2
  have H := Lib.hid h
  clear h
  go_enter Try.func104, Try.ntmps104
  go_wp2
  go_ret
  exact ⟨rfl, ((H.out.put 0 (by omega) (.int .i64 0) { f with ln := 0 } cd vl rfl).put 1 (by omega) (.int .i64 c) { f with ln := 0 } c vl rfl).put 2 (by omega) (.int .i64 v) { f with ln := 0 } c v rfl,
    (((Fr.refl [q] _).setCell (by simp) _).setCell (by simp) _).setCell (by simp) _⟩

/-- The result. -/
theorem lresult_any (h : LB w q ty post f cd vl) :
    Calls Try.prog 101 #[.pointer (some ⟨q, 0, none⟩)] w fun e w' => e = .returned (.tuple #[.int .i64 cd, .int .i64 vl]) ∧ ∃ n, w' = w.drewN n := by
  have c7 : w.cell? ⟨q, 1, none⟩ = some (.int .i64 cd) := h.at_ 1 (by omega)
  have c8 : w.cell? ⟨q, 2, none⟩ = some (.int .i64 vl) := h.at_ 2 (by omega)
  clear h
  go_enter Try.func101, Try.ntmps101
  go_wp2_with fail
  go_quiet (fail)
  go_wp2
  go_ret2
  exact ⟨rfl, _, rfl⟩

/-- What a step of such a machine gives. -/
def LStepped (w : World) (p m k g cap : Nat) (s' : St) (t d : Int) (hd : List Value) (rv ev : Value) (q : Nat) (ty : TypeId) (post : List Value) (f' : Fra) (r : Res) (e : Ending) (w' : World) : Prop :=
  e = .returned (.bool r.dn) ∧ PE w' p m k g cap s' t d hd rv ev ∧ LB w' q ty post (if r.dn then { f' with ln := 0 } else f') r.cd r.vl ∧ Fr [m, g, q] w w'
end
end Go.Proofs.Ytllllbepnnpeeaa

namespace Go.Proofs.Ytllllbepnnpeeaa
open Go Go.RowKit Go.Shelf

theorem or_fn (x v : Int) (a : Addr) (w : World) (h : w.cell? a = some (.int .u64 v)) : Calls Try.prog 106 #[.int .u64 x, .pointer (some a)] w fun e w' => e = .returned (.int .u64 (bits .or .u64 x v)) ∧ w = w' := by
  go_enter Try.func106, Try.ntmps106
  go_wp2
  go_ret
  exact ⟨rfl, rfl⟩

theorem or_any {w : World} {p g cap : Nat} {s : St} (h : Mem w p g cap s) (i v : Int) :
    Calls Try.prog 105 #[.pointer (some ⟨p, 0, none⟩), .int .i64 i, .int .u64 v] w fun e w' => e = .returned (.int .u64 (s.old i)) ∧ Mem w' p g cap (s.go 4 i fun x => bits .or .u64 x v) ∧ Fr [p, g] w w' := by
  have hc : (w.alloc (.cells #[.int .u64 v] 39)).cell? ⟨w.heap.size, 0, none⟩ = some (.int .u64 v) := (Blk.made w 39 #[.int .u64 v]).at_ 0
  have H := access_any (h.alloc (.cells #[.int .u64 v] 39)) 4 i 106 #[.pointer (some ⟨w.heap.size, 0, none⟩)] _ (enters_of Try.func106 (by kernel_rfl) rfl) (fun x => or_fn x v _ _ hc)
  generalize s.old i = x at *
  generalize decide (s.has i) = b at *
  go_enter Try.func105, Try.ntmps105
  go_wp2_with fail
  refine H.mono ?_
  rintro e w' ⟨rfl, hm, hfr⟩
  go_wp2
  go_ret
  exact ⟨rfl, hm, ((Fr.refl _ _).alloc _).trans hfr⟩
end Go.Proofs.Ytllllbepnnpeeaa

namespace Go.Proofs.Ytllllbepnnpeeaa
open Go Go.RowKit Go.Shelf

theorem and_fn (x v : Int) (a : Addr) (w : World) (h : w.cell? a = some (.int .u64 v)) : Calls Try.prog 116 #[.int .u64 x, .pointer (some a)] w fun e w' => e = .returned (.int .u64 (bits .and .u64 x v)) ∧ w = w' := by
  go_enter Try.func116, Try.ntmps116
  go_wp2
  go_ret
  exact ⟨rfl, rfl⟩

theorem and_any {w : World} {p g cap : Nat} {s : St} (h : Mem w p g cap s) (i v : Int) :
    Calls Try.prog 114 #[.pointer (some ⟨p, 0, none⟩), .int .i64 i, .int .u64 v] w fun e w' => e = .returned (.int .u64 (s.old i)) ∧ Mem w' p g cap (s.go 5 i fun x => bits .and .u64 x v) ∧ Fr [p, g] w w' := by
  have hc : (w.alloc (.cells #[.int .u64 v] 39)).cell? ⟨w.heap.size, 0, none⟩ = some (.int .u64 v) := (Blk.made w 39 #[.int .u64 v]).at_ 0
  have H := access_any (h.alloc (.cells #[.int .u64 v] 39)) 5 i 116 #[.pointer (some ⟨w.heap.size, 0, none⟩)] _ (enters_of Try.func116 (by kernel_rfl) rfl) (fun x => and_fn x v _ _ hc)
  generalize s.old i = x at *
  generalize decide (s.has i) = b at *
  go_enter Try.func114, Try.ntmps114
  go_wp2_with fail
  refine H.mono ?_
  rintro e w' ⟨rfl, hm, hfr⟩
  go_wp2
  go_ret
  exact ⟨rfl, hm, ((Fr.refl _ _).alloc _).trans hfr⟩
end Go.Proofs.Ytllllbepnnpeeaa

namespace Go.Proofs.Ytllllbepnnpeeaa
open Go Go.RowKit
set_option linter.unusedSimpArgs false

/-- The word of one bit. -/
def maskS (i : Int) : Int := if i < 0 ∨ 63 < i then 0 else ((2 ^ i.toNat : Nat) : Int)
/-- The complement of a word, as the program's arithmetic has it. -/
abbrev notU (x : Int) : Int := bits .xor .u64 (if IntKind.u64.signed = true then -1 else IntKind.u64.max) x
/-- A line of clearBit. -/
def clearS (s : St) (f : Fra) : St × Fra × Res :=
  if f.ln = 1 then (s.go 5 f.fa (fun x => bits .and .u64 x (notU (maskS f.fb))), { f with ln := 2 }, .none)
  else if f.ln = 2 then (s.go 1 f.qb id, { f with fu := s.old f.qb, ln := 3 }, .none)
  else if f.ln = 3 then
    if sizeI f.fu (s.old f.qt) ≤ 0 then (s.go 1 f.qt id, { f with fv := s.old f.qt }, ⟨true, 2, 0⟩)
    else (s.go 1 f.qt id, { f with fv := s.old f.qt, ln := 4 }, .none)
  else (s.go 4 f.fa (fun x => bits .or .u64 x (maskS f.fb)), f, ⟨true, 1, 0⟩)
/-- The line of set. -/
def setS (s : St) (f : Fra) : St × Fra × Res := (s.go 4 f.fa (fun x => bits .or .u64 x (maskS f.fb)), f, ⟨true, 0, 0⟩)
def SetOk (f : Fra) : Prop := f.ln = 1 ∧ 0 ≤ f.fu ∧ 0 ≤ f.fv ∧ f.qc ≤ 9223372036854775807
theorem set_keeps : Keeps setS SetOk := by
  refine ⟨fun s f hs h => go_N hs _ _ _ (fun x hx => u64_nn _), fun s f hs h hd => absurd hd (by simp [setS]), fun s f hs h => ⟨h.2.1, h.2.2.1⟩, fun s f h => go_c _ _ _ h, fun s f hd => absurd hd (by simp [setS]), fun s f => ⟨rfl, rfl, rfl⟩, fun s f => go_len _ _ _ _⟩
theorem clear_keeps : Keeps clearS StealOk := by
  refine ⟨fun s f hs h => ?_, fun s f hs h hd => ?_, fun s f hs h => ?_, fun s f h => ?_, fun s f hd => ?_, fun s f => ?_, fun s f => ?_⟩
  · unfold clearS
    split
    · exact go_N hs _ _ _ (fun x hx => u64_nn _)
    split
    · exact go_N hs _ _ _ (fun x hx => hx)
    split
    · split <;> exact go_N hs _ _ _ (fun x hx => hx)
    · exact go_N hs _ _ _ (fun x hx => u64_nn _)
  · obtain ⟨hl, hu, hv, hq⟩ := h
    revert hd
    unfold clearS
    split
    · intro _
      exact ⟨.inr (.inl rfl), hu, hv, hq⟩
    split
    · intro _
      exact ⟨.inr (.inr (.inl rfl)), hs _, hv, hq⟩
    split
    · split
      · intro hd
        exact absurd hd (by simp)
      · intro _
        exact ⟨.inr (.inr (.inr rfl)), hu, hs _, hq⟩
    · intro hd
      exact absurd hd (by simp)
  · obtain ⟨hl, hu, hv, hq⟩ := h
    unfold clearS
    split
    · exact ⟨hu, hv⟩
    split
    · exact ⟨hs _, hv⟩
    split
    · split <;> exact ⟨hu, hs _⟩
    · exact ⟨hu, hv⟩
  · unfold clearS
    split
    · exact go_c _ _ _ h
    split
    · exact go_c _ _ _ h
    split
    · split <;> exact go_c _ _ _ h
    · exact go_c _ _ _ h
  · revert hd
    unfold clearS
    split
    · intro _; exact ⟨rfl, rfl⟩
    split
    · intro _; exact ⟨rfl, rfl⟩
    split
    · split
      · intro hd; exact absurd hd (by simp)
      · intro _; exact ⟨rfl, rfl⟩
    · intro hd; exact absurd hd (by simp)
  · unfold clearS
    split
    · exact ⟨rfl, rfl, rfl⟩
    split
    · exact ⟨rfl, rfl, rfl⟩
    split
    · split <;> exact ⟨rfl, rfl, rfl⟩
    · exact ⟨rfl, rfl, rfl⟩
  · unfold clearS
    split
    · exact go_len _ _ _ _
    split
    · exact go_len _ _ _ _
    split
    · split <;> exact go_len _ _ _ _
    · exact go_len _ _ _ _
end Go.Proofs.Ytllllbepnnpeeaa

namespace Go.Proofs.Ytllllbepnnpeeaa
open Go Go.RowKit Go.Shelf
set_option linter.unusedSimpArgs false
set_option linter.unusedVariables false

set_option maxHeartbeats 1000000 in
/-- A bit of a cell. -/
theorem at_any (c b : Int) (w : World) : Calls Try.prog 47 #[.int .i64 c, .int .i64 b] w fun e w' => e = .returned (.agg #[.int .i64 c, .int .u64 (maskS b)]) ∧ Below w.heap.size w w' := by
  have hX := Blk.made w 122 #[.int .i64 0, .int .u64 0]
  have hB := below_one w (.cells #[.int .i64 0, .int .u64 0] 122)
  have HX := Lib.hid hX
  have HB := Lib.hid hB
  clear hX hB
  unfold maskS
  have key : ∀ x : Int, (x < 0 ∨ 63 < x) → Calls Try.prog 47 #[.int .i64 c, .int .i64 x] w fun e w' => e = .returned (.agg #[.int .i64 c, .int .u64 0]) ∧ Below w.heap.size w w' := by
    intro x hx
    by_cases h0 : x < 0
    · go_enter Try.func47, Try.ntmps47
      go_upto_region 1 with fail
      generalize w.alloc (.cells #[.int .i64 0, .int .u64 0] 122) = W1 at *
      have c0 := HX.out.at_ 0
      have c1 := HX.out.at_ 1
      have f0 := HX.out.free 0
      have f1 := HX.out.free 1
      go_wp2
      have HY := ((HX.out.put 0 (.int .i64 c)).put 1 (.int .u64 0))
      have HF : Fr [w.heap.size] W1 ((W1.setCell ⟨w.heap.size, 0, none⟩ (.int .i64 c)).setCell ⟨w.heap.size, 1, none⟩ (.int .u64 0)) := ((Fr.refl _ _).setCell (by simp) _).setCell (by simp) _
      refine bodyPost_ret (results_cell_row (P := Try.prog) Try.results47 _ _ w.heap.size 122 _ (0, 0) _ rfl HY Try.underlying122 rfl (by kernel_rfl)) rfl ?_
      exact ⟨rfl, below_of_fr HB.out HF (fun y hy => by simp at hy; omega)⟩
    · have h1 : 64 ≤ x := by omega
      go_enter Try.func47, Try.ntmps47
      go_upto_region 1 with fail
      generalize w.alloc (.cells #[.int .i64 0, .int .u64 0] 122) = W1 at *
      have c0 := HX.out.at_ 0
      have c1 := HX.out.at_ 1
      have f0 := HX.out.free 0
      have f1 := HX.out.free 1
      go_wp2
      have HY := ((HX.out.put 0 (.int .i64 c)).put 1 (.int .u64 0))
      have HF : Fr [w.heap.size] W1 ((W1.setCell ⟨w.heap.size, 0, none⟩ (.int .i64 c)).setCell ⟨w.heap.size, 1, none⟩ (.int .u64 0)) := ((Fr.refl _ _).setCell (by simp) _).setCell (by simp) _
      refine bodyPost_ret (results_cell_row (P := Try.prog) Try.results47 _ _ w.heap.size 122 _ (0, 0) _ rfl HY Try.underlying122 rfl (by kernel_rfl)) rfl ?_
      exact ⟨rfl, below_of_fr HB.out HF (fun y hy => by simp at hy; omega)⟩
  by_cases hb : b < 0 ∨ 63 < b
  · rw [if_pos hb]
    exact key b hb
  · rw [if_neg hb]
    obtain ⟨k, rfl⟩ : ∃ k : Nat, b = (k : Int) := ⟨b.toNat, by omega⟩
    rw [Int.toNat_natCast]
    have hk : k < 64 := by omega
    have h0 : decide ((k : Int) < 0) = false := by simp
    have h1 : decide ((64 : Int) ≤ (k : Int)) = false := by simp; omega
    go_enter Try.func47, Try.ntmps47
    go_upto_region 1 with fail
    generalize w.alloc (.cells #[.int .i64 0, .int .u64 0] 122) = W1 at *
    have c0 := HX.out.at_ 0
    have c1 := HX.out.at_ 1
    have f0 := HX.out.free 0
    have f1 := HX.out.free 1
    go_wp2
    have hpw : IntKind.u64.wrap ((2 : Int) ^ k) = ((2 ^ k : Nat) : Int) := by
      have h2 : ((2 : Int) ^ k) = ((2 ^ k : Nat) : Int) := by simp
      have h3 : (2 : Nat) ^ k ≤ 2 ^ 63 := Nat.pow_le_pow_right (by decide) (by omega)
      rw [h2, IntKind.wrap_u64]
      generalize (2 : Nat) ^ k = P at *
      omega
    rw [hpw]
    generalize (2 ^ k : Nat) = P at *
    have HY := ((HX.out.put 0 (.int .i64 c)).put 1 (.int .u64 (P : Int)))
    have HF : Fr [w.heap.size] W1 ((W1.setCell ⟨w.heap.size, 0, none⟩ (.int .i64 c)).setCell ⟨w.heap.size, 1, none⟩ (.int .u64 (P : Int))) := ((Fr.refl _ _).setCell (by simp) _).setCell (by simp) _
    refine bodyPost_ret (results_cell_row (P := Try.prog) Try.results47 _ _ w.heap.size 122 _ (0, 0) _ rfl HY Try.underlying122 rfl (by kernel_rfl)) rfl ?_
    exact ⟨rfl, below_of_fr HB.out HF (fun y hy => by simp at hy; omega)⟩
end Go.Proofs.Ytllllbepnnpeeaa
