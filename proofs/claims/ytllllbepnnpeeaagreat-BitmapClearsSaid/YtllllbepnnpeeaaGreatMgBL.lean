/-
  workstealmatch.Alone of the machines of package bitmap, at most nine steps. (Written by wip/gen_bm.py.)
  Plain mathematics of a deque as words. No function is named.
-/
import Derived.Test.YtllllbepnnpeeaaGreatMgBK
import Derived.Test.YtllllbepnnpeeaaGreatMgBH
import Derived.Test.YtllllbepnnpeeaaGreatMgAO
namespace Go.Proofs.YtllllbepnnpeeaaGreat
open Go Go.RowKit Go.Shelf
set_option linter.unusedSimpArgs false

/-- What its loop keeps. -/
def AloR_setter (w : World) (p m k g cap : Nat) (s' : St) (t d : Int) (hd : List Value) (rv ev : Value) (q : Nat) (r : Res) (N : Nat) (i : Value) (wr : World) : Prop :=
  ∃ (j : Nat) (s : St) (x : Fra), j ≤ 9 ∧ i = .int .i64 j ∧ PE wr p m k g cap s t d hd rv ev ∧ LB wr q 140 [.int .i64 x.fa, .int .u64 (maskS x.fb)] x 0 0 ∧ s.N ∧ SetOk x ∧ (∃ M, runS setS (9 - j) s x = some (s', r, M) ∧ M + j = N) ∧ Fr [m, g, q] w wr
set_option maxRecDepth 100000 in
set_option maxHeartbeats 4000000 in
theorem alone_setter {w : World} {p m k g cap : Nat} {s s' : St} {t d : Int} {hd : List Value} {rv ev : Value} {q : Nat} {x : Fra} {r : Res} {N : Nat} (hp : PE w p m k g cap s t d hd rv ev) (h : LB w q 140 [.int .i64 x.fa, .int .u64 (maskS x.fb)] x 0 0) (hn : s.N) (hk : SetOk x) (hr : runS setS 9 s x = some (s', r, N)) :
    Calls Tryz.prog 42 #[.pointer (some ⟨p, 0, none⟩), .iface 132 (.pointer (some ⟨q, 0, none⟩)), .int .i64 9] w (Aloned w p m k g cap s' t d hd rv ev q r N) := by
  have HST := Lib.hid (show AloR_setter w p m k g cap s' t d hd rv ev q r N (.int .i64 0) w from ⟨0, s, x, by omega, rfl, hp, h, hn, hk, ⟨N, hr, rfl⟩, Fr.refl _ _⟩)
  clear hp h hn hk hr
  have km := meth_step_setter q
  have ka := ahead_step_setter q
  have kr := meth_result_setter q
  have kb := ahead_result_setter q
  go_enter Tryz.func42, Tryz.ntmps42
  go_wp2_with fail
  go_loopw [8] (fun i wr => AloR_setter w p m k g cap s' t d hd rv ev q r N i wr) (fun i _ => 9 - (intOf i).toNat)
  case atStart => exact HST.out
  case round =>
    clear HST
    obtain ⟨j, sj, x, hj, rfl, hp, ho, hn, hk, ⟨M, hr, hM⟩, hf⟩ := hrel
    have hj20 : j < 9 := by
      rcases Nat.lt_or_ge j 9 with h | h
      · exact h
      · obtain rfl : j = 9 := by omega
        simp [runS] at hr
    obtain ⟨l, hl⟩ : ∃ l, 9 - j = l + 1 := ⟨8 - j, by omega⟩
    rw [hl] at hr
    have HP := Lib.hid hp
    have HO := Lib.hid ho
    have HK := Lib.hid (And.intro hn (And.intro hk (And.intro hl hM)))
    have HR := Lib.hid hr
    have HF := Lib.hid hf
    clear hp ho hn hk hr hf hl hM
    have ej : wrap64 ((j : Int) + 1) = ((j + 1 : Nat) : Int) := by unfold wrap64; omega
    have hlt : (j : Int) < 9 := by omega
    have HS := Lib.hid (setter_any HP.out HO.out HK.out.2.1.1)
    cases hdn : (setS sj x).2.2.dn with
    | true =>
      obtain ⟨e1, e2, e3⟩ := runS_end HR.out hdn
      go_wp2_with fail
      (with_reducible refine HS.out.mono ?_)
      rintro e w1 ⟨rfl, hp1, hb1, hf1⟩
      have HB1 := Lib.hid hb1
      have HQ := Lib.hid (And.intro e1 (And.intro e2 e3))
      have HP1 := Lib.hid hp1
      have HF1 := Lib.hid (HF.out.trans hf1)
      clear hb1 hp1 hf1 e1 e2 e3
      rw [hdn]
      go_wp2_with fail
      (with_reducible refine (lresult_any HB1.out).mono ?_)
      rintro e w2 ⟨rfl, nd, rfl⟩
      go_wp2_with fail
      go_ret3
      obtain ⟨e1, e2, e3⟩ := HQ.out
      have eN : j + 1 = N := by have := HK.out.2.2.2; omega
      subst eN
      rw [← e2]
      have hP := HP1.out.drewN nd
      rw [e1] at hP
      exact ⟨rfl, hP, HF1.out.drewN nd⟩
    | false =>
      obtain ⟨M2, e1, e2⟩ := runS_on HR.out hdn
      have HQ := Lib.hid (And.intro e1 e2)
      clear e1 e2
      go_wp2_with fail
      (with_reducible refine HS.out.mono ?_)
      rintro e w1 ⟨rfl, hp1, hb1, hf1⟩
      rw [hdn] at hb1
      have HB1 := Lib.hid hb1
      have HP1 := Lib.hid hp1
      have HF1 := Lib.hid (HF.out.trans hf1)
      clear hb1 hp1 hf1
      rw [hdn]
      go_wp2_with fail
      go_roundw
      case rel =>
        obtain ⟨e1, e2⟩ := HQ.out
        have hz := set_keeps.z sj x hdn
        have hb := HB1.out
        simp only [Bool.false_eq_true, if_false] at hb
        rw [hz.1, hz.2] at hb
        refine ⟨j + 1, (setS sj x).1, (setS sj x).2.1, by omega, by go_num, HP1.out, ?_, set_keeps.n _ _ HK.out.1 HK.out.2.1, set_keeps.o _ _ HK.out.1 HK.out.2.1 hdn, ⟨M2, ?_, ?_⟩, HF1.out⟩
        · exact hb
        · rw [show 9 - (j + 1) = l by have := HK.out.2.2.1; omega]
          exact e1
        · have := HK.out.2.2.2
          omega
      case measure => simp [intOf]; omega


/-- What its loop keeps. -/
def AloR_clearer (w : World) (p m k g cap : Nat) (s' : St) (t d : Int) (hd : List Value) (rv ev : Value) (q : Nat) (r : Res) (N : Nat) (i : Value) (wr : World) : Prop :=
  ∃ (j : Nat) (s : St) (x : Fra), j ≤ 9 ∧ i = .int .i64 j ∧ PE wr p m k g cap s t d hd rv ev ∧ OB wr q 146 [.int .i64 x.fa, .int .u64 (maskS x.fb)] x 0 0 ∧ s.N ∧ StealOk x ∧ (∃ M, runS clearS (9 - j) s x = some (s', r, M) ∧ M + j = N) ∧ Fr [m, g, q] w wr
set_option maxRecDepth 100000 in
set_option maxHeartbeats 4000000 in
theorem alone_clearer {w : World} {p m k g cap : Nat} {s s' : St} {t d : Int} {hd : List Value} {rv ev : Value} {q : Nat} {x : Fra} {r : Res} {N : Nat} (hp : PE w p m k g cap s t d hd rv ev) (h : OB w q 146 [.int .i64 x.fa, .int .u64 (maskS x.fb)] x 0 0) (hn : s.N) (hk : StealOk x) (hr : runS clearS 9 s x = some (s', r, N)) :
    Calls Tryz.prog 42 #[.pointer (some ⟨p, 0, none⟩), .iface 141 (.pointer (some ⟨q, 0, none⟩)), .int .i64 9] w (Aloned w p m k g cap s' t d hd rv ev q r N) := by
  have HST := Lib.hid (show AloR_clearer w p m k g cap s' t d hd rv ev q r N (.int .i64 0) w from ⟨0, s, x, by omega, rfl, hp, h, hn, hk, ⟨N, hr, rfl⟩, Fr.refl _ _⟩)
  clear hp h hn hk hr
  have km := meth_step_clearer q
  have ka := ahead_step_clearer q
  have kr := meth_result_clearer q
  have kb := ahead_result_clearer q
  go_enter Tryz.func42, Tryz.ntmps42
  go_wp2_with fail
  go_loopw [8] (fun i wr => AloR_clearer w p m k g cap s' t d hd rv ev q r N i wr) (fun i _ => 9 - (intOf i).toNat)
  case atStart => exact HST.out
  case round =>
    clear HST
    obtain ⟨j, sj, x, hj, rfl, hp, ho, hn, hk, ⟨M, hr, hM⟩, hf⟩ := hrel
    have hj20 : j < 9 := by
      rcases Nat.lt_or_ge j 9 with h | h
      · exact h
      · obtain rfl : j = 9 := by omega
        simp [runS] at hr
    obtain ⟨l, hl⟩ : ∃ l, 9 - j = l + 1 := ⟨8 - j, by omega⟩
    rw [hl] at hr
    have HP := Lib.hid hp
    have HO := Lib.hid ho
    have HK := Lib.hid (And.intro hn (And.intro hk (And.intro hl hM)))
    have HR := Lib.hid hr
    have HF := Lib.hid hf
    clear hp ho hn hk hr hf hl hM
    have ej : wrap64 ((j : Int) + 1) = ((j + 1 : Nat) : Int) := by unfold wrap64; omega
    have hlt : (j : Int) < 9 := by omega
    have HS := Lib.hid (clearer_any HP.out HO.out HK.out.2.1.1)
    cases hdn : (clearS sj x).2.2.dn with
    | true =>
      obtain ⟨e1, e2, e3⟩ := runS_end HR.out hdn
      go_wp2_with fail
      (with_reducible refine HS.out.mono ?_)
      rintro e w1 ⟨rfl, hp1, hb1, hf1⟩
      have HB1 := Lib.hid hb1
      have HQ := Lib.hid (And.intro e1 (And.intro e2 e3))
      have HP1 := Lib.hid hp1
      have HF1 := Lib.hid (HF.out.trans hf1)
      clear hb1 hp1 hf1 e1 e2 e3
      rw [hdn]
      go_wp2_with fail
      (with_reducible refine (oresult_any HB1.out).mono ?_)
      rintro e w2 ⟨rfl, nd, rfl⟩
      go_wp2_with fail
      go_ret3
      obtain ⟨e1, e2, e3⟩ := HQ.out
      have eN : j + 1 = N := by have := HK.out.2.2.2; omega
      subst eN
      rw [← e2]
      have hP := HP1.out.drewN nd
      rw [e1] at hP
      exact ⟨rfl, hP, HF1.out.drewN nd⟩
    | false =>
      obtain ⟨M2, e1, e2⟩ := runS_on HR.out hdn
      have HQ := Lib.hid (And.intro e1 e2)
      clear e1 e2
      go_wp2_with fail
      (with_reducible refine HS.out.mono ?_)
      rintro e w1 ⟨rfl, hp1, hb1, hf1⟩
      rw [hdn] at hb1
      have HB1 := Lib.hid hb1
      have HP1 := Lib.hid hp1
      have HF1 := Lib.hid (HF.out.trans hf1)
      clear hb1 hp1 hf1
      rw [hdn]
      go_wp2_with fail
      go_roundw
      case rel =>
        obtain ⟨e1, e2⟩ := HQ.out
        have hz := clear_keeps.z sj x hdn
        have hb := HB1.out
        simp only [Bool.false_eq_true, if_false] at hb
        rw [hz.1, hz.2] at hb
        refine ⟨j + 1, (clearS sj x).1, (clearS sj x).2.1, by omega, by go_num, HP1.out, ?_, clear_keeps.n _ _ HK.out.1 HK.out.2.1, clear_keeps.o _ _ HK.out.1 HK.out.2.1 hdn, ⟨M2, ?_, ?_⟩, HF1.out⟩
        · exact hb
        · rw [show 9 - (j + 1) = l by have := HK.out.2.2.1; omega]
          exact e1
        · have := HK.out.2.2.2
          omega
      case measure => simp [intOf]; omega


end Go.Proofs.YtllllbepnnpeeaaGreat

namespace Go.Proofs.YtllllbepnnpeeaaGreat
open Go Go.RowKit
set_option linter.unusedSimpArgs false

/-- The cell of an index, in a deque from cell 2 on. -/
theorem ring2 (n : Nat) (hn : 1 ≤ n ∧ n ≤ 100) (i : Int) : ∃ r : Nat, r < n ∧ (r : Int) = i % n ∧ ringI 2 n i = ((2 + r : Nat) : Int) := by
  have h1 := Int.emod_nonneg i (show (n : Int) ≠ 0 by omega)
  have h2 := Int.emod_lt_of_pos i (show (0 : Int) < n by omega)
  refine ⟨(i % n).toNat, by omega, by omega, ?_⟩
  unfold ringI
  rw [if_neg (by omega)]
  unfold wrap64
  omega
/-- The words X are those of a deque whose indices begin with t, and which has the words l as entries. -/
structure DqX (X : List Int) (n t : Nat) (l : List Int) : Prop where
  top : X.getD 0 0 = t
  ent : ∀ i, i < l.length → X.getD (2 + (t + i) % n) 0 = l.getD i 0
theorem mod_ne {n a b : Nat} (h : a < b) (h' : b < a + n) : a % n ≠ b % n := by
  intro e
  have h1 := Nat.div_add_mod a n
  have h2 := Nat.div_add_mod b n
  have h3 : n * (b / n) = n * (a / n) + (b - a) := by omega
  have h4 : a / n < b / n := by
    rcases Nat.lt_or_ge (a / n) (b / n) with h | h
    · exact h
    · have := Nat.mul_le_mul_left n h
      omega
  have h5 : n * (a / n + 1) ≤ n * (b / n) := Nat.mul_le_mul_left n h4
  rw [Nat.mul_add] at h5
  omega
theorem DqX.put {X : List Int} {n t : Nat} {l : List Int} (h : DqX X n t l) (hX : X.length = n + 3) (hn : 1 ≤ n) (hl : l.length < n) (v : Int) : DqX (X.set (2 + (t + l.length) % n) v) n t (l ++ [v]) := by
  have hm := Nat.mod_lt (t + l.length) (show n > 0 by omega)
  refine ⟨?_, fun i hi => ?_⟩
  · rw [List.getD_eq_getElem?_getD, List.getElem?_set_ne (by omega), ← List.getD_eq_getElem?_getD]
    exact h.top
  · rw [List.length_append] at hi
    simp only [List.length_cons, List.length_nil, Nat.zero_add] at hi
    by_cases hil : i < l.length
    · have hne := mod_ne (n := n) (a := t + i) (b := t + l.length) (by omega) (by omega)
      rw [List.getD_eq_getElem?_getD, List.getElem?_set_ne (by omega), ← List.getD_eq_getElem?_getD, h.ent i hil, List.getD_eq_getElem?_getD, List.getD_eq_getElem?_getD, List.getElem?_append_left hil]
    · obtain rfl : i = l.length := by omega
      rw [List.getD_eq_getElem?_getD, List.getElem?_set_self (by omega), List.getD_eq_getElem?_getD, List.getElem?_append_right (Nat.le_refl _), Nat.sub_self]
      rfl

end Go.Proofs.YtllllbepnnpeeaaGreat
