/-
  Plain mathematics of Play: what is done can be put in order, each act is done once. No function is named.
-/
import Derived.Test.YtjehiekmlbeaeaaGreatMgAL
namespace Go.Proofs.YtjehiekmlbeaeaaGreat
open Go Go.RowKit
set_option linter.unusedSimpArgs false
set_option linter.unusedVariables false

theorem stepM_nine {s : St} {m : Mach} (hd : (stepM s m).2.2.dn = false) : (stepM s m).2.1.line ≤ 9 := by
  cases m with
  | no => cases hd
  | push f =>
    replace hd : (pushS s f).2.2.dn = false := hd
    show (pushS s f).2.1.ln ≤ 9
    revert hd
    unfold pushS
    split
    · intro _; show (2 : Int) ≤ 9; decide
    split
    · split
      · intro h; cases h
      · intro _; show (3 : Int) ≤ 9; decide
    split
    · intro _; show (4 : Int) ≤ 9; decide
    · intro h; cases h
  | pop f =>
    replace hd : (popS s f).2.2.dn = false := hd
    show (popS s f).2.1.ln ≤ 9
    revert hd
    unfold popS
    split
    · intro _; show (2 : Int) ≤ 9; decide
    split
    · split
      · intro h; cases h
      · intro _; show (3 : Int) ≤ 9; decide
    split
    · intro _; show (4 : Int) ≤ 9; decide
    split
    · intro _
      show pop4 _ ≤ 9
      unfold pop4
      split
      · decide
      · split <;> decide
    split
    · intro h; cases h
    split
    · intro _
      show (if s.hit f.qt f.fv = true then (7 : Int) else 9) ≤ 9
      split <;> decide
    split
    · intro _; show (8 : Int) ≤ 9; decide
    · intro h; cases h
  | steal f =>
    replace hd : (stealS s f).2.2.dn = false := hd
    show (stealS s f).2.1.ln ≤ 9
    revert hd
    unfold stealS
    split
    · intro _; show (2 : Int) ≤ 9; decide
    split
    · split
      · intro h; cases h
      · intro _; show (3 : Int) ≤ 9; decide
    split
    · intro _; show (4 : Int) ≤ 9; decide
    · intro h
      replace h : (if s.hit f.qt f.fv then (⟨true, 1, wrap64 f.fw⟩ : Res) else ⟨true, 4, 0⟩).dn = false := h
      split at h <;> cases h
theorem stepM_kind {s : St} {m : Mach} (h : m.idle = false) : (stepM s m).2.1.kind = m.kind ∧ (stepM s m).2.1.idle = false := by
  cases m with
  | no => cases h
  | push f => exact ⟨rfl, rfl⟩
  | pop f => exact ⟨rfl, rfl⟩
  | steal f => exact ⟨rfl, rfl⟩
/-- All is well with all of them. -/
def AllOk (S : PlS) : Prop := ∀ i, i < S.P.length → PlOk i (S.P.getD i .no)
theorem stp_ok {i : Nat} {p : Plr} {S : PlS} (h : AllOk S) (hp : PlOk i p) (hl : p.x.m.idle = false) : AllOk (stpP i p S) ∧ (stpP i p S).P.length = S.P.length ∧ (stpP i p S).now = S.now + 1 := by
  unfold stpP
  split
  · refine ⟨fun j hj => ?_, by show (S.P.set i _).length = _; rw [List.length_set], rfl⟩
    replace hj : j < (S.P.set i ⟨p.acts, ⟨.no, p.x.sn, p.x.vl⟩⟩).length := hj
    show PlOk j ((S.P.set i ⟨p.acts, ⟨.no, p.x.sn, p.x.vl⟩⟩).getD j .no)
    rw [List.length_set] at hj
    by_cases e : i = j
    · subst e
      rw [set_at _ _ _ _ hj]
      exact ⟨hp.can, .inl rfl, hp.vl⟩
    · rw [set_off _ _ _ _ _ e]
      exact h j hj
  · rename_i hd
    have hd : (stepM S.s p.x.m).2.2.dn = false := by simpa using hd
    refine ⟨fun j hj => ?_, by show (S.P.set i _).length = _; rw [List.length_set], rfl⟩
    replace hj : j < (S.P.set i ⟨p.acts, ⟨(stepM S.s p.x.m).2.1, p.x.sn, p.x.vl⟩⟩).length := hj
    show PlOk j ((S.P.set i ⟨p.acts, ⟨(stepM S.s p.x.m).2.1, p.x.sn, p.x.vl⟩⟩).getD j .no)
    rw [List.length_set] at hj
    by_cases e : i = j
    · subst e
      rw [set_at _ _ _ _ hj]
      have h1 : 1 ≤ p.x.m.line := by
        rcases hp.ln with e | e
        · rw [e] at hl; cases hl
        · exact e.1
      have h2 := (stepM_line h1 hd).1
      exact ⟨hp.can, .inr ⟨by show 1 ≤ (stepM S.s p.x.m).2.1.line; omega, stepM_nine hd⟩, hp.vl⟩
    · rw [set_off _ _ _ _ _ e]
      exact h j hj
theorem pick_ok {C : Int} {i : Nat} {S : PlS} (h : AllOk S) (hi : i < S.P.length) : AllOk (pickP C i S) ∧ (pickP C i S).P.length = S.P.length ∧ (pickP C i S).now = S.now + 1 := by
  unfold pickP
  split
  · exact ⟨h, rfl, rfl⟩
  · rename_i hl
    exact stp_ok h (begP_ok (h i hi)).1 (by simpa using hl)
/-- How much is left to do, at most; how many operations there are. -/
def sumN : List Nat → Nat
  | [] => 0
  | a :: l => a + sumN l
theorem sumN_set (l : List Nat) (i v : Nat) (h : i < l.length) : sumN (l.set i v) + l.getD i 0 = sumN l + v := by
  induction l generalizing i with
  | nil => simp at h
  | cons a l ih =>
    cases i with
    | zero => show v + sumN l + a = a + sumN l + v; omega
    | succ i =>
      have := ih i (by simpa using h)
      show a + sumN (l.set i v) + l.getD i 0 = a + sumN l + v
      omega
theorem getD_map {α β : Type} (f : α → β) (l : List α) (i : Nat) (d : α) (e : β) (he : f d = e) : (l.map f).getD i e = f (l.getD i d) := by
  subst he
  simp only [List.getD_eq_getElem?_getD, List.getElem?_map]
  cases l[i]? <;> rfl
def PlS.todo (S : PlS) : Nat := sumN (S.P.map Plr.todo)
def Plr.cnt (p : Plr) : Nat := p.acts.length + if p.x.m.idle = true then 0 else 1
def PlS.cnt (S : PlS) : Nat := S.out.length + sumN (S.P.map Plr.cnt)
theorem stp_sum {i : Nat} {p : Plr} {S : PlS} (hi : i < S.P.length) (hp : PlOk i p) (hl : p.x.m.idle = false) (f : Plr → Nat) (p' : Plr) (he : (stpP i p S).P = S.P.set i p') : sumN ((stpP i p S).P.map f) + f (S.P.getD i .no) = sumN (S.P.map f) + f p' := by
  rw [he, List.map_set]
  have := sumN_set (S.P.map f) i (f p') (by rw [List.length_map]; exact hi)
  rw [List.getD_eq_getElem?_getD, List.getElem?_map, List.getElem?_eq_getElem hi] at this
  rw [List.getD_eq_getElem?_getD, List.getElem?_eq_getElem hi]
  exact this
theorem pick_sum {C : Int} {i : Nat} {S : PlS} (h : AllOk S) (hi : i < S.P.length) : (pickP C i S).cnt = S.cnt ∧ (pickP C i S).todo ≤ S.todo ∧ ((S.P.getD i .no).busy = true → (pickP C i S).todo + 1 ≤ S.todo) := by
  obtain ⟨b1, b2, b3, b4⟩ := begP_ok (C := C) (now := S.now) (h i hi)
  have hc : (begP C S.now (S.P.getD i .no)).cnt = (S.P.getD i .no).cnt := by
    cases hm : (S.P.getD i .no).x.m.idle with
    | false => rw [begP_on hm]
    | true =>
      cases ha : (S.P.getD i .no).acts with
      | nil => rw [begP_rest hm ha]
      | cons a r =>
        rw [begP_next hm ha]
        unfold Plr.cnt
        rw [hm, ha]
        show r.length + (if (actM C a).idle = true then 0 else 1) = r.length + 1 + 0
        rw [actM_live]
        rfl
  unfold pickP
  split
  · rename_i hl
    refine ⟨rfl, Nat.le_refl _, fun hb => ?_⟩
    rw [b3 hb] at hl
    cases hl
  · rename_i hl
    have hl : (begP C S.now (S.P.getD i .no)).x.m.idle = false := by simpa using hl
    generalize begP C S.now (S.P.getD i .no) = p at *
    have hline : 1 ≤ p.x.m.line := by
      rcases b1.ln with e | e
      · rw [e] at hl; cases hl
      · exact e.1
    have ht := Mach.todo_line b1.ln
    have hnn := Mach.idle_not hl
    have hcp : p.cnt = p.acts.length + 1 := by unfold Plr.cnt; rw [hl]; rfl
    cases hd : (stepM S.s p.x.m).2.2.dn with
    | true =>
      have he : (stpP i p S).P = S.P.set i ⟨p.acts, ⟨.no, p.x.sn, p.x.vl⟩⟩ := by unfold stpP; rw [if_pos hd]
      have ho : (stpP i p S).out.length = S.out.length + 1 := by unfold stpP; rw [if_pos hd]; simp
      have s1 := stp_sum hi b1 hl Plr.todo _ he
      have s2 := stp_sum hi b1 hl Plr.cnt _ he
      have k1 : (⟨p.acts, ⟨.no, p.x.sn, p.x.vl⟩⟩ : Plr).todo = 9 * p.acts.length := rfl
      have k2 : (⟨p.acts, ⟨.no, p.x.sn, p.x.vl⟩⟩ : Plr).cnt = p.acts.length := rfl
      have k3 : p.todo = 9 * p.acts.length + p.x.m.todo := rfl
      unfold PlS.cnt PlS.todo
      rcases ht with ⟨e, _⟩ | ht
      · exact absurd e hnn
      · omega
    | false =>
      have he : (stpP i p S).P = S.P.set i ⟨p.acts, ⟨(stepM S.s p.x.m).2.1, p.x.sn, p.x.vl⟩⟩ := by unfold stpP; rw [if_neg (by rw [hd]; decide)]
      have ho : (stpP i p S).out = S.out := by unfold stpP; rw [if_neg (by rw [hd]; decide)]
      have s1 := stp_sum hi b1 hl Plr.todo _ he
      have s2 := stp_sum hi b1 hl Plr.cnt _ he
      have k1 : (⟨p.acts, ⟨(stepM S.s p.x.m).2.1, p.x.sn, p.x.vl⟩⟩ : Plr).todo = 9 * p.acts.length + (stepM S.s p.x.m).2.1.todo := rfl
      have k2 : (⟨p.acts, ⟨(stepM S.s p.x.m).2.1, p.x.sn, p.x.vl⟩⟩ : Plr).cnt = p.acts.length + 1 := by
        show p.acts.length + (if (stepM S.s p.x.m).2.1.idle = true then 0 else 1) = _
        rw [(stepM_kind hl).2]
        rfl
      have k3 : p.todo = 9 * p.acts.length + p.x.m.todo := rfl
      have h2 := (stepM_line hline hd).1
      have h9 := stepM_nine hd
      have ht2 := Mach.todo_line (m := (stepM S.s p.x.m).2.1) (.inr ⟨by omega, h9⟩)
      have hn2 := Mach.idle_not (stepM_kind hl (s := S.s)).2
      unfold PlS.cnt PlS.todo
      rw [ho]
      rcases ht with ⟨e, _⟩ | ht
      · exact absurd e hnn
      · rcases ht2 with ⟨e, _⟩ | ht2
        · exact absurd e hn2
        · omega
/-- The order, told of the players. -/
def HIp (n : Nat) (S : PlS) : Prop := ∃ (T : Nat) (L : List Int) (cl : Option Int) (O1 O2 : List OpR), HI n 0 S.now S.s T L cl (S.P.map Plr.x) S.out O1 O2
theorem HIp.pick {n i : Nat} {S : PlS} (h : HIp n S) (ok : AllOk S) (hi : i < S.P.length) (hn : S.now < 200000) : HIp n (pickP n i S) := by
  obtain ⟨T, L, cl, O1, O2, h⟩ := h
  obtain ⟨b1, b2, b3, b4⟩ := begP_ok (C := (n : Int)) (now := S.now) (ok i hi)
  have eA : ∀ j, (S.P.map Plr.x).getD j .no = (S.P.getD j .no).x := fun j => getD_map _ _ _ _ _ rfl
  have hlen : i < (S.P.map Plr.x).length := by rw [List.length_map]; exact hi
  -- the player begins
  have hb : HI n 0 S.now S.s T L cl ((S.P.map Plr.x).set i (begP n S.now (S.P.getD i .no)).x) S.out O1 O2 := by
    have hsame : (S.P.map Plr.x).set i (S.P.getD i .no).x = S.P.map Plr.x := by
      rw [← eA]
      apply List.ext_getElem
      · simp
      · intro j h1 h2
        rw [List.getElem_set]
        by_cases e : i = j
        · subst e
          rw [if_pos rfl, List.getD_eq_getElem?_getD, List.getElem?_eq_getElem hlen]
          rfl
        · rw [if_neg e]
    cases hm : (S.P.getD i .no).x.m.idle with
    | false => rw [begP_on hm, hsame]; exact h
    | true =>
      cases ha : (S.P.getD i .no).acts with
      | nil => rw [begP_rest hm ha, hsame]; exact h
      | cons a r =>
        rw [begP_next hm ha]
        have hno := Mach.idle_iff.1 hm
        have hc := (ok i hi).can a (by rw [ha]; exact List.mem_cons_self ..)
        have hcan := hc.1
        unfold canR at hcan
        by_cases h0 : i = 0
        · subst h0
          rw [if_pos rfl] at hcan
          have e0 : ((S.P.map Plr.x).getD 0 .no).m = .no := by rw [eA]; exact hno
          have how := h.hm.ow
          rw [e0] at how
          by_cases hk : a.k = 0
          · have hA : actM (n : Int) a = .push (fraP 0 n a.v) := by unfold actM; rw [if_pos hk]
            have hV : actV a = a.v := by unfold actV; rw [if_pos hk]
            refine h.begin0 hlen e0 _ rfl ?_ (fun f => ?_) (fun f e => ?_)
            · show OW S.s n T L cl (actM (n : Int) a).own
              rw [hA]
              exact ⟨⟨rfl, rfl, rfl, rfl, how.1, .inl rfl⟩, how.2⟩
            · show actM (n : Int) a ≠ _
              rw [hA]
              exact fun e => by cases e
            · replace e : actM (n : Int) a = .push f := e
              rw [hA] at e
              injection e with e
              subst e
              show a.v = actV a ∧ wrap64 a.v = a.v
              rw [hV]
              exact ⟨rfl, by unfold wrap64; omega⟩
          · have hk1 : a.k = 1 := by
              simp at hcan
              omega
            have hA : actM (n : Int) a = .pop (fraP 1 n 0) := by unfold actM; rw [if_neg hk, if_pos hk1]
            refine h.begin0 hlen e0 _ rfl ?_ (fun f => ?_) (fun f e => ?_)
            · show OW S.s n T L cl (actM (n : Int) a).own
              rw [hA]
              exact ⟨rfl, rfl, rfl, rfl, .inl ⟨rfl, how.1, how.2⟩⟩
            · show actM (n : Int) a ≠ _
              rw [hA]
              exact fun e => by cases e
            · replace e : actM (n : Int) a = .push f := e
              rw [hA] at e
              cases e
        · rw [if_neg h0] at hcan
          have hk : a.k = 2 := by simpa using hcan
          have hA : actM (n : Int) a = .steal (fraP 2 n 0) := by unfold actM; rw [if_neg (by omega), if_neg (by omega)]
          exact h.begin1 (by omega) hlen (by rw [eA]; exact hno) _ rfl (fraP 2 n 0) hA ⟨rfl, rfl, rfl, rfl⟩ rfl
  unfold pickP
  split
  · exact ⟨T, L, cl, O1, O2, h.next hn⟩
  rename_i hl
  have hl : (begP n S.now (S.P.getD i .no)).x.m.idle = false := by simpa using hl
  generalize begP n S.now (S.P.getD i .no) = p at *
  have hmap : ∀ q : Plr, (S.P.set i q).map Plr.x = (S.P.map Plr.x).set i q.x := fun q => List.map_set ..
  have hA1 : i < ((S.P.map Plr.x).set i p.x).length := by rw [List.length_set]; exact hlen
  have hA2 : ((S.P.map Plr.x).set i p.x).getD i .no = p.x := set_at _ _ _ _ hlen
  have hA3 : ∀ y : AcT, ((S.P.map Plr.x).set i p.x).set i y = (S.P.map Plr.x).set i y := fun y => List.set_set ..
  obtain ⟨acts, ⟨m, sn, vl⟩⟩ := p
  unfold stpP
  cases m with
  | no => cases hl
  | push f =>
    have hi0 : i = 0 := by
      rcases Nat.eq_zero_or_pos i with e | e
      · exact e
      · rcases hb.hm.th i e with e2 | ⟨g, e2, _⟩
        · rw [hA2] at e2; cases e2
        · rw [hA2] at e2; cases e2
    subst hi0
    have hp := hb.push hA1 hn (f := f) (by rw [hA2]) (by rw [hA2]; exact b1.vl)
    rw [hA2, hA3, hA3] at hp
    obtain ⟨p1, p2⟩ := hp
    by_cases hd : (pushS S.s f).2.2.dn = true
    · rw [if_pos (show (stepM S.s (.push f)).2.2.dn = true from hd)]
      obtain ⟨L', O1', hq⟩ := p2 hd
      refine ⟨T, L', cl, O1', [], ?_⟩
      show HI n 0 (S.now + 1) (pushS S.s f).1 T L' cl ((S.P.set 0 ⟨acts, ⟨.no, sn, vl⟩⟩).map Plr.x) _ O1' []
      rw [hmap]
      exact hq
    · rw [if_neg (show ¬ (stepM S.s (.push f)).2.2.dn = true from hd)]
      refine ⟨T, L, cl, O1, O2, ?_⟩
      show HI n 0 (S.now + 1) (pushS S.s f).1 T L cl ((S.P.set 0 ⟨acts, ⟨.push (pushS S.s f).2.1, sn, vl⟩⟩).map Plr.x) _ O1 O2
      rw [hmap]
      exact p1 (by simpa using hd)
  | pop f =>
    have hi0 : i = 0 := by
      rcases Nat.eq_zero_or_pos i with e | e
      · exact e
      · rcases hb.hm.th i e with e2 | ⟨g, e2, _⟩
        · rw [hA2] at e2; cases e2
        · rw [hA2] at e2; cases e2
    subst hi0
    have hp := hb.pop hA1 hn (f := f) (by rw [hA2])
    rw [hA2] at hp
    obtain ⟨p1, p2⟩ := hp
    by_cases hd : (popS S.s f).2.2.dn = true
    · rw [if_pos (show (stepM S.s (.pop f)).2.2.dn = true from hd)]
      obtain ⟨T', L', cl', O1', hq⟩ := p2 hd
      refine ⟨T', L', cl', O1', [], ?_⟩
      show HI n 0 (S.now + 1) (popS S.s f).1 T' L' cl' ((S.P.set 0 ⟨acts, ⟨.no, sn, vl⟩⟩).map Plr.x) _ O1' []
      rw [hmap, ← hA3]
      exact hq
    · rw [if_neg (show ¬ (stepM S.s (.pop f)).2.2.dn = true from hd)]
      obtain ⟨T', L', cl', O1', O2', hq⟩ := p1 (by simpa using hd)
      refine ⟨T', L', cl', O1', O2', ?_⟩
      show HI n 0 (S.now + 1) (popS S.s f).1 T' L' cl' ((S.P.set 0 ⟨acts, ⟨.pop (popS S.s f).2.1, sn, vl⟩⟩).map Plr.x) _ O1' O2'
      rw [hmap, ← hA3]
      exact hq
  | steal f =>
    have hi0 : 0 < i := by
      rcases Nat.eq_zero_or_pos i with e | e
      · subst e
        exact absurd (show (((S.P.map Plr.x).set 0 ⟨.steal f, sn, vl⟩).getD 0 .no).m = .steal f by rw [hA2]) (hb.hm.o0 f)
      · exact e
    have hp := hb.steal hi0 hA1 hn (f := f) (by rw [hA2])
    rw [hA2] at hp
    obtain ⟨p1, p2⟩ := hp
    by_cases hd : (stealS S.s f).2.2.dn = true
    · rw [if_pos (show (stepM S.s (.steal f)).2.2.dn = true from hd)]
      obtain ⟨T', L', O1', O2', hq⟩ := p2 hd
      refine ⟨T', L', cl, O1', O2', ?_⟩
      show HI n 0 (S.now + 1) (stealS S.s f).1 T' L' cl ((S.P.set i ⟨acts, ⟨.no, sn, vl⟩⟩).map Plr.x) _ O1' O2'
      rw [hmap, ← hA3]
      exact hq
    · rw [if_neg (show ¬ (stepM S.s (.steal f)).2.2.dn = true from hd)]
      refine ⟨T, L, cl, O1, O2, ?_⟩
      show HI n 0 (S.now + 1) (stealS S.s f).1 T L cl ((S.P.set i ⟨acts, ⟨.steal (stealS S.s f).2.1, sn, vl⟩⟩).map Plr.x) _ O1 O2
      rw [hmap, ← hA3]
      exact p1 (by simpa using hd)
/-- What holds of the operations behind all. -/
def PlayGood (n cnt : Nat) (r : List OpR) : Prop := LinP n r ∧ (∀ o, o ∈ r → Formed o ∧ 0 ≤ o.m ∧ 0 ≤ o.a ∧ o.a ≤ o.b) ∧ (∀ o, o ∈ r → o.c = 4 → o.k = 2 ∧ Rival r o) ∧ (∀ v, r.countP (isOut v) ≤ r.countP (isIn v)) ∧ r.length = cnt
theorem sumN_zero {l : List Nat} (h : ∀ i, i < l.length → l.getD i 0 = 0) : sumN l = 0 := by
  induction l with
  | nil => rfl
  | cons a l ih =>
    have h0 := h 0 (by simp)
    replace h0 : a = 0 := h0
    have := ih fun i hi => h (i + 1) (by simp; omega)
    show a + sumN l = 0
    omega
theorem pick_off {C : Int} {i j : Nat} {S : PlS} (h : i ≠ j) : (pickP C i S).P.getD j .no = S.P.getD j .no := by
  unfold pickP
  split
  · rfl
  · unfold stpP
    split
    · exact set_off _ _ _ _ _ h
    · exact set_off _ _ _ _ _ h
theorem ends_good {n i : Nat} {S : PlS} {r : List OpR} (h : Ends n i S r) (hi : HIp n S) (ok : AllOk S) (hn : S.now + S.todo ≤ 190000) (hr : ∀ j, j < i → (S.P.getD j .no).busy = false) (h0 : 0 < S.P.length) : PlayGood n S.cnt r := by
  induction h with
  | @over i S hl =>
    have hidle : ∀ j, (S.P.getD j .no).busy = false := by
      intro j
      by_cases hj : j < i
      · exact hr j hj
      · rw [List.getD_eq_getElem?_getD, List.getElem?_eq_none (by omega)]
        rfl
    have hz : ∀ j, (S.P.getD j .no).x.m.idle = true ∧ (S.P.getD j .no).acts.length = 0 := by
      intro j
      have := hidle j
      unfold Plr.busy at this
      simpa using this
    obtain ⟨T, L, cl, O1, O2, hi⟩ := hi
    have hl := hi.last (by rw [getD_map Plr.x S.P 0 .no .no rfl]; exact Mach.idle_iff.1 (hz 0).1)
    refine ⟨hl.1, hl.2.1, hl.2.2.1, hl.2.2.2, ?_⟩
    have : sumN (S.P.map Plr.cnt) = 0 := sumN_zero fun j hj => by
      rw [getD_map Plr.cnt S.P j .no 0 rfl]
      unfold Plr.cnt
      rw [(hz j).1, (hz j).2]
      rfl
    unfold PlS.cnt
    omega
  | @rest i S r h1 h2 h3 ih =>
    refine ih hi ok hn (fun j hj => ?_) h0
    by_cases e : j = i
    · rw [e]; exact h2
    · exact hr j (by omega)
  | @step i S r h1 h2 h3 ih =>
    obtain ⟨k1, k2, k3⟩ := pick_ok (C := (n : Int)) ok h1
    obtain ⟨k4, k5, k6⟩ := pick_sum (C := (n : Int)) ok h1
    have := k6 h2
    rw [← k4]
    exact ih (hi.pick ok h1 (by omega)) k1 (by omega) (fun j hj => by rw [pick_off (by omega)]; exact hr j hj) (by omega)
theorem picks_good {n K : Nat} (l : List Int) (S : PlS) (hi : HIp n S) (ok : AllOk S) (hK : S.P.length = K) (h0 : 0 < K) (hn : S.now + l.length + S.todo ≤ 190000) :
    HIp n (picksP n K l S) ∧ AllOk (picksP n K l S) ∧ (picksP n K l S).P.length = K ∧ (picksP n K l S).now + (picksP n K l S).todo ≤ 190000 ∧ (picksP n K l S).cnt = S.cnt := by
  induction l generalizing S with
  | nil => exact ⟨hi, ok, hK, (by show S.now + S.todo ≤ 190000; simp only [List.length_nil] at hn; omega), rfl⟩
  | cons p l ih =>
    have hp : (p.emod K).toNat < S.P.length := by
      have h1 := Int.emod_nonneg p (show (K : Int) ≠ 0 by omega)
      have h2 := Int.emod_lt_of_pos p (show (0 : Int) < (K : Int) by omega)
      have h3 : p.emod K = p % K := rfl
      omega
    obtain ⟨k1, k2, k3⟩ := pick_ok (C := (n : Int)) ok hp
    obtain ⟨k4, k5, k6⟩ := pick_sum (C := (n : Int)) ok hp
    simp only [List.length_cons] at hn
    have := ih (pickP n (p.emod K).toNat S) (hi.pick ok hp (by omega)) k1 (by omega) (by omega)
    refine ⟨this.1, this.2.1, this.2.2.1, this.2.2.2.1, this.2.2.2.2.trans k4⟩
theorem plrs_len (plan : List (List ActR)) : (plrs plan).length = plan.length := by unfold plrs; simp
theorem plrs_at (plan : List (List ActR)) (i : Nat) (hi : i < plan.length) : (plrs plan).getD i .no = ⟨(plan.getD i []).filter (canR i), .no⟩ := by
  unfold plrs
  rw [List.getD_eq_getElem?_getD, List.getElem?_map, List.getElem?_range hi]
  rfl
/-- A plan all acts of which are within the bounds of an int. -/
def PlanIn (plan : List (List ActR)) : Prop := ∀ i a, a ∈ plan.getD i [] → -9223372036854775808 ≤ a.v ∧ a.v ≤ 9223372036854775807
theorem first_ok (s : St) {plan : List (List ActR)} (h : PlanIn plan) : AllOk (PlS.first s plan) := by
  intro i hi
  replace hi : i < (plrs plan).length := hi
  rw [plrs_len] at hi
  show PlOk i ((plrs plan).getD i .no)
  rw [plrs_at plan i hi]
  refine ⟨fun a ha => ?_, .inl rfl, by show (-9223372036854775808 : Int) ≤ 0 ∧ (0 : Int) ≤ 9223372036854775807; omega⟩
  obtain ⟨h1, h2⟩ := List.mem_filter.1 ha
  exact ⟨h2, h i a h1⟩
theorem plays_good {n : Nat} {s : St} {plan : List (List ActR)} {picks : List Int} {r : List OpR} (h : Plays s n plan picks r) (hp : plan ≠ []) (hi : PlanIn plan) (hs : CL s n 0 0 []) (hb : s.old 1 = 0)
    (hn : picks.length + (PlS.first s plan).todo ≤ 190000) : PlayGood n (PlS.first s plan).cnt r := by
  unfold Plays at h
  rw [if_neg hp] at h
  have h0 : 0 < plan.length := by
    cases plan with
    | nil => exact absurd rfl hp
    | cons a l => simp
  have hrep : (plrs plan).map Plr.x = List.replicate plan.length .no := by
    unfold plrs
    rw [List.map_map]
    apply List.ext_getElem
    · simp
    · intro i h1 h2
      simp
  have hfi : HIp n (PlS.first s plan) := ⟨0, [], none, [], [], by
    show HI n 0 0 s 0 [] none ((plrs plan).map Plr.x) [] [] []
    rw [hrep]
    exact HI.first hs hb _⟩
  have hlen : (PlS.first s plan).P.length = plan.length := plrs_len plan
  obtain ⟨k1, k2, k3, k4, k5⟩ := picks_good picks _ hfi (first_ok s hi) hlen h0 (by show 0 + _ + _ ≤ _; omega)
  rw [← k5]
  exact ends_good h k1 k2 k4 (fun j hj => by omega) (by omega)
end Go.Proofs.YtjehiekmlbeaeaaGreat
