/-
  Stage 11: small; a small plan is one that Play takes.
  Stage 11: what the laws let an owner and thieves do (pure; names no function).
  Stage 11, plain mathematics: the chapter's examples; what a plan of a law gives. No function is named.
-/
import Derived.Test.YtjehiekmlbeaeaaGreatMgAY
import Derived.LoopTactic
import Derived.Test.YtjehiekmlbeaeaaGreatPlyB
import Derived.Test.YtjehiekmlbeaeaaGreatMgAA
namespace Go.Proofs.YtjehiekmlbeaeaaGreat
open Go Go.RowKit Go.Shelf
set_option linter.unusedSimpArgs false
set_option linter.unusedVariables false

/-- A plan is small. -/
def smallB (plan : List (List ActR)) : Bool := decide (plan.length ≤ 12) && plan.all (fun l => decide (l.length ≤ 40))
theorem smallB_iff (plan : List (List ActR)) : smallB plan = true ↔ plan.length ≤ 12 ∧ ∀ i, i < plan.length → (plan.getD i []).length ≤ 40 := by
  unfold smallB
  simp only [Bool.and_eq_true, decide_eq_true_eq, List.all_eq_true]
  refine ⟨fun ⟨h1, h2⟩ => ⟨h1, fun i hi => ?_⟩, fun ⟨h1, h2⟩ => ⟨h1, fun l hl => ?_⟩⟩
  · rw [List.getD_eq_getElem?_getD, List.getElem?_eq_getElem hi]
    exact h2 _ (List.getElem_mem hi)
  · obtain ⟨i, hi, rfl⟩ := List.mem_iff_getElem.1 hl
    have := h2 i hi
    rw [List.getD_eq_getElem?_getD, List.getElem?_eq_getElem hi] at this
    exact this
theorem sum_le (L : List Nat) (b : Nat) (h : ∀ x, x ∈ L → x ≤ b) : sumN L ≤ L.length * b := by
  induction L with
  | nil => simp [sumN]
  | cons x L ih =>
    have h1 := h x (List.mem_cons_self ..)
    have h2 := ih (fun y hy => h y (List.mem_cons_of_mem _ hy))
    show x + sumN L ≤ (L.length + 1) * b
    rw [Nat.add_mul]
    omega
theorem plan_sums {plan : List (List ActR)} (h : smallB plan = true) (s : St) : (PlS.first s plan).todo ≤ 4320 ∧ (PlS.first s plan).cnt ≤ 480 := by
  obtain ⟨h1, h2⟩ := (smallB_iff plan).1 h
  have hp : ∀ q, q ∈ plrs plan → q.x = .no ∧ q.acts.length ≤ 40 := by
    intro q hq
    unfold plrs at hq
    obtain ⟨i, hi, rfl⟩ := List.mem_map.1 hq
    rw [List.mem_range] at hi
    exact ⟨rfl, Nat.le_trans (List.length_filter_le _ _) (h2 i hi)⟩
  constructor
  · show sumN ((plrs plan).map Plr.todo) ≤ 4320
    refine Nat.le_trans (sum_le _ 360 (fun x hx => ?_)) (by rw [List.length_map, plrs_len]; omega)
    obtain ⟨q, hq, rfl⟩ := List.mem_map.1 hx
    obtain ⟨e1, e2⟩ := hp q hq
    obtain ⟨ac, xx⟩ := q
    simp only at e1 e2
    subst e1
    show 9 * ac.length + 0 ≤ 360
    omega
  · show 0 + sumN ((plrs plan).map Plr.cnt) ≤ 480
    have := sum_le ((plrs plan).map Plr.cnt) 40 (fun x hx => by
      obtain ⟨q, hq, rfl⟩ := List.mem_map.1 hx
      obtain ⟨e1, e2⟩ := hp q hq
      obtain ⟨ac, xx⟩ := q
      simp only at e1 e2
      subst e1
      show ac.length + 0 ≤ 40
      omega)
    rw [List.length_map, plrs_len] at this
    omega
theorem CamePl.inPl {w : World} {a : Option Addr} {plan : List (List ActR)} (h : CamePl w a plan) (hs : smallB plan = true) : InPl w a plan := fun i hi => by
  obtain ⟨x, va, vc, e, hx, hc, hg, _⟩ := h i hi
  have := ((smallB_iff plan).1 hs).2 i hi
  exact ⟨x, va, vc, e, hx, hc, hg, by omega⟩
theorem CamePl.planIn {w : World} {a : Option Addr} {plan : List (List ActR)} (h : CamePl w a plan) : PlanIn plan := fun i t ht => by
  by_cases hi : i < plan.length
  · obtain ⟨_, _, _, _, _, _, _, hv⟩ := h i hi
    obtain ⟨j, hj, e⟩ := List.mem_iff_getElem.1 ht
    have := hv j hj
    rw [List.getD_eq_getElem?_getD (l := plan.getD i []), List.getElem?_eq_getElem hj, e] at this
    exact this
  · rw [List.getD_eq_getElem?_getD, List.getElem?_eq_none (by omega)] at ht
    cases ht

set_option maxRecDepth 100000 in
set_option maxHeartbeats 2000000 in
theorem small_any {w : World} {a : Option Addr} {n c : Nat} {plan : List (List ActR)} (h : CamePl w a plan) (hn : plan.length = n) (hm : n ≤ maxLen) :
    Calls Tryz.prog 23 #[.slice a n c] w fun e w' => e = .returned (.bool (smallB plan)) ∧ w = w' := by
  unfold maxLen at hm
  have H := Lib.hid h
  have HN := Lib.hid hn
  clear h hn
  by_cases h12 : 12 < n
  · have d1 : decide (12 < (n : Int)) = true := decide_eq_true (by omega)
    have e : smallB plan = false := by
      cases hb : smallB plan with
      | false => rfl
      | true => have := ((smallB_iff plan).1 hb).1; have := HN.out; omega
    rw [e]
    go_enter Tryz.func23, Tryz.ntmps23
    go_wp2
    go_ret
    exact ⟨rfl, rfl⟩
  · have d1 : decide (12 < (n : Int)) = false := decide_eq_false (by omega)
    go_enter Tryz.func23, Tryz.ntmps23
    go_wp2_with fail
    go_loopw [3] (fun i wr => ∃ j : Nat, j ≤ n ∧ i = .int .i64 j ∧ wr = w ∧ ∀ k, k < j → (plan.getD k []).length ≤ 40) (fun i _ => n - (intOf i).toNat)
    case atStart => exact ⟨0, by omega, rfl, rfl, fun k hk => by omega⟩
    case round =>
      obtain ⟨j, hj, rfl, hw, hall⟩ := hrel
      have HA := Lib.hid hall
      subst hw
      clear hall
      by_cases hlt : j < n
      · obtain ⟨x, va, vc, rfl, hx, hc, hg, _⟩ := H.out j (by rw [HN.out]; exact hlt)
        obtain ⟨m, hmm⟩ : ∃ m, (plan.getD j []).length = m := ⟨_, rfl⟩
        have hml := hg.1
        rw [List.length_map] at hml
        rw [hmm] at hc hml
        unfold maxLen at hml
        have HM := Lib.hid hmm
        clear hmm hg
        by_cases h40 : 40 < m
        · have d2 : decide (40 < (m : Int)) = true := decide_eq_true (by omega)
          have e : smallB plan = false := by
            cases hb : smallB plan with
            | false => rfl
            | true => have := ((smallB_iff plan).1 hb).2 j (by rw [HN.out]; exact hlt); rw [HM.out] at this; omega
          go_wp2
          go_ret
          refine ⟨?_, rfl⟩
          rw [e]
          rfl
        · have d2 : decide (40 < (m : Int)) = false := decide_eq_false (by omega)
          go_wp2_with fail
          go_roundw
          case rel =>
            refine ⟨j + 1, by omega, by go_num, trivial, fun k hk => ?_⟩
            by_cases e : k = j
            · subst e
              rw [HM.out]
              omega
            · exact HA.out k (by omega)
          case measure => simp [intOf]; omega
      · have hjn : j = n := by omega
        have d3 : decide ((j : Int) < (n : Int)) = false := decide_eq_false (by omega)
        have e : smallB plan = true := (smallB_iff plan).2 ⟨by have := HN.out; omega, fun i hi => HA.out i (by rw [HN.out] at hi; omega)⟩
        go_wp2
        go_ret
        refine ⟨?_, rfl⟩
        rw [e]
        rfl
end Go.Proofs.YtjehiekmlbeaeaaGreat

namespace Go.Proofs.YtjehiekmlbeaeaaGreat
open Go Go.RowKit
set_option linter.unusedSimpArgs false
set_option linter.unusedVariables false

/-- One number z, whose keep is m, goes into a plan. -/
def planZ (z m : Int) (P : List (List ActR)) : List (List ActR) :=
  if 0 < m ∧ m < P.length then P.set m.toNat (P.getD m.toNat [] ++ [⟨2, 0⟩])
  else if z.tmod 3 = 0 then P.set 0 (P.getD 0 [] ++ [⟨1, 0⟩])
  else P.set 0 (P.getD 0 [] ++ [⟨0, z.tmod 4⟩])
/-- All is well with a plan of c acts. -/
structure PlnOk (c : Nat) (P : List (List ActR)) : Prop where
  can : ∀ i a, i < P.length → a ∈ P.getD i [] → canR i a = true
  vl : ∀ i a, a ∈ P.getD i [] → -3 ≤ a.v ∧ a.v ≤ 3
  sum : sumN (P.map List.length) = c
theorem planZ_len (z m : Int) (P : List (List ActR)) : (planZ z m P).length = P.length := by
  unfold planZ
  split
  · exact List.length_set
  · split <;> exact List.length_set
theorem set_ok {c k : Nat} {P : List (List ActR)} {a : ActR} (h : PlnOk c P) (hk : k < P.length) (ha : canR k a = true) (hv : -3 ≤ a.v ∧ a.v ≤ 3) : PlnOk (c + 1) (P.set k (P.getD k [] ++ [a])) := by
  have e : ∀ i, i ≠ k → (P.set k (P.getD k [] ++ [a])).getD i [] = P.getD i [] := fun i hi => by
    simp only [List.getD_eq_getElem?_getD]
    rw [List.getElem?_set_ne (fun e => hi e.symm)]
  have e2 : (P.set k (P.getD k [] ++ [a])).getD k [] = P.getD k [] ++ [a] := by
    rw [List.getD_eq_getElem?_getD, List.getElem?_set_self hk]
    rfl
  refine ⟨fun i b hi hb => ?_, fun i b hb => ?_, ?_⟩
  · rw [List.length_set] at hi
    by_cases hik : i = k
    · subst hik
      rw [e2, List.mem_append, List.mem_singleton] at hb
      rcases hb with hb | rfl
      · exact h.can i b hi hb
      · exact ha
    · rw [e i hik] at hb
      exact h.can i b hi hb
  · by_cases hik : i = k
    · subst hik
      rw [e2, List.mem_append, List.mem_singleton] at hb
      rcases hb with hb | rfl
      · exact h.vl i b hb
      · exact hv
    · rw [e i hik] at hb
      exact h.vl i b hb
  · have h1 := sumN_set (P.map List.length) k (P.getD k [] ++ [a]).length (by rw [List.length_map]; exact hk)
    rw [getD_map List.length P k [] 0 rfl, h.sum] at h1
    rw [List.map_set]
    rw [List.length_append] at h1
    simp only [List.length_singleton] at h1
    rw [List.length_append]
    simp only [List.length_singleton]
    omega
theorem planZ_ok {c : Nat} {z m : Int} {P : List (List ActR)} (h : PlnOk c P) (h0 : 0 < P.length) : PlnOk (c + 1) (planZ z m P) := by
  unfold planZ
  split
  · rename_i hm
    refine set_ok h (by omega) ?_ ⟨by decide, by decide⟩
    unfold canR
    rw [if_neg (by omega)]
    rfl
  · split
    · exact set_ok h h0 rfl ⟨by decide, by decide⟩
    · have h1 := Int.tmod_lt_of_pos z (show (0 : Int) < 4 by decide)
      have h2 : -4 < z.tmod 4 := by
        have := Int.lt_tmod_of_pos z (show (0 : Int) < 4 by decide)
        omega
      exact set_ok h h0 rfl ⟨by show -3 ≤ z.tmod 4; omega, by show z.tmod 4 ≤ 3; omega⟩
/-- The plan of the numbers zs from 1 on, j of them: keep gives a number's keep. -/
def planJ (keep : Nat → Int) (zs : List Int) (K : Nat) : Nat → List (List ActR)
  | 0 => List.replicate K []
  | j + 1 => planZ (zs.getD (j + 1) 0) (keep (j + 1)) (planJ keep zs K j)
theorem planJ_len (keep : Nat → Int) (zs : List Int) (K j : Nat) : (planJ keep zs K j).length = K := by
  induction j with
  | zero => exact List.length_replicate
  | succ j ih => rw [planJ, planZ_len, ih]
theorem planJ_ok (keep : Nat → Int) (zs : List Int) {K : Nat} (hK : 0 < K) (j : Nat) : PlnOk j (planJ keep zs K j) := by
  induction j with
  | zero =>
    have e : ∀ i, (List.replicate K ([] : List ActR)).getD i [] = [] := fun i => by
      rw [List.getD_eq_getElem?_getD, List.getElem?_replicate]
      split <;> rfl
    refine ⟨fun i a hi ha => ?_, fun i a ha => ?_, sumN_zero (fun i hi => ?_)⟩
    · rw [planJ, e] at ha; cases ha
    · rw [planJ, e] at ha; cases ha
    · rw [getD_map List.length _ i [] 0 rfl, planJ, e]; rfl
  | succ j ih => exact planZ_ok ih (by rw [planJ_len]; exact hK)
/-- What Play asks of a plan. -/
theorem PlnOk.first {c : Nat} {P : List (List ActR)} (h : PlnOk c P) (s : St) : PlanIn P ∧ (PlS.first s P).todo = 9 * c ∧ (PlS.first s P).cnt = c ∧ ∀ i, i < P.length → (P.getD i []).filter (canR i) = P.getD i [] := by
  have hf : ∀ i, i < P.length → (P.getD i []).filter (canR i) = P.getD i [] := fun i hi => List.filter_eq_self.2 (fun a ha => h.can i a hi ha)
  have hp : ∀ f : Plr → Nat, (plrs P).map f = P.map (fun l => f ⟨l, .no⟩) := fun f => by
    refine List.ext_getElem (by rw [List.length_map, List.length_map, plrs_len]) (fun i h1 h2 => ?_)
    rw [List.length_map] at h2
    rw [List.getElem_map, List.getElem_map]
    unfold plrs
    rw [List.getElem_map, List.getElem_range]
    rw [hf i h2, List.getD_eq_getElem?_getD, List.getElem?_eq_getElem h2]
    rfl
  refine ⟨fun i a ha => by have := h.vl i a ha; omega, ?_, ?_, hf⟩
  · show sumN ((plrs P).map Plr.todo) = 9 * c
    rw [hp Plr.todo, ← h.sum]
    clear hp hf h
    induction P with
    | nil => rfl
    | cons a r ih =>
      show (9 * a.length + 0) + sumN (r.map fun l => Plr.todo ⟨l, .no⟩) = 9 * (a.length + sumN (r.map List.length))
      rw [ih]; omega
  · show 0 + sumN ((plrs P).map Plr.cnt) = c
    rw [hp Plr.cnt, ← h.sum]
    clear hp hf h
    induction P with
    | nil => rfl
    | cons a r ih =>
      show 0 + ((a.length + 0) + sumN (r.map fun l => Plr.cnt ⟨l, .no⟩)) = a.length + sumN (r.map List.length)
      omega
end Go.Proofs.YtjehiekmlbeaeaaGreat

namespace Go.Proofs.YtjehiekmlbeaeaaGreat
open Go Go.RowKit
set_option linter.unusedSimpArgs false
set_option linter.unusedVariables false

/-- The players go on one after another, n steps at most. -/
def endF (C : Int) : Nat → Nat → PlS → Option (List OpR)
  | 0, _, _ => none
  | n + 1, i, S => if S.P.length ≤ i then some S.out else if (S.P.getD i .no).busy = true then endF C n i (pickP C i S) else endF C n (i + 1) S
theorem endF_ends {C : Int} : ∀ (n : Nat) {i : Nat} {S : PlS} {r : List OpR}, endF C n i S = some r → Ends C i S r
  | 0, _, _, _, h => by cases h
  | n + 1, i, S, r, h => by
    unfold endF at h
    by_cases h1 : S.P.length ≤ i
    · rw [if_pos h1] at h
      obtain rfl := Option.some.inj h
      exact .over h1
    · rw [if_neg h1] at h
      cases hb : (S.P.getD i .no).busy with
      | true =>
        rw [if_pos hb] at h
        exact .step (by omega) hb (endF_ends n h)
      | false =>
        rw [if_neg (by rw [hb]; decide)] at h
        exact .rest (by omega) hb (endF_ends n h)
/-- The plan of awake, what comes of it, and what can't be put in order. -/
def awP : List (List ActR) := [[⟨0, 5⟩, ⟨1, 0⟩], [⟨2, 0⟩]]
def awO : List OpR := [⟨0, 0, 0, 3, 0, 5⟩, ⟨1, 0, 4, 10, 1, 5⟩, ⟨2, 1, 11, 12, 2, 0⟩]
def awE : List OpR := [⟨1, 0, 0, 1, 1, 5⟩, ⟨0, 0, 2, 5, 0, 5⟩]
theorem aw_end : endF 1 60 0 (PlS.first (St.new 3) awP) = some awO := by decide +kernel
theorem aw_plays {r : List OpR} (h : Plays (St.new 3) 1 awP [] r) : r = awO := by
  unfold Plays at h
  rw [if_neg (by simp [awP])] at h
  exact h.same (endF_ends 60 aw_end)
theorem aw_lin : LinP 1 awO := ⟨awO, List.Perm.refl _, by simp [awO, RT], [], by decide +kernel⟩
theorem aw_not : ¬ LinP 1 awE := by
  rintro ⟨ord, hp, hr, l, hl⟩
  cases ord with
  | nil => exact absurd hp.length_eq (by simp [awE])
  | cons x rest =>
    have hx : x ∈ awE := hp.subset (List.mem_cons_self ..)
    simp only [awE, List.mem_cons, List.not_mem_nil, or_false] at hx
    rcases hx with rfl | rfl
    · cases hl
    · have hm : (⟨1, 0, 0, 1, 1, 5⟩ : OpR) ∈ (⟨0, 0, 2, 5, 0, 5⟩ : OpR) :: rest := hp.symm.subset (by simp [awE])
      rcases List.mem_cons.1 hm with e | e
      · cases e
      · have := (List.pairwise_cons.1 hr).1 _ e
        revert this
        unfold RT
        decide
theorem aw_in : PlanIn awP := by
  intro i a ha
  match i, ha with
  | 0, ha =>
    simp only [awP, List.getD_cons_zero, List.mem_cons, List.not_mem_nil, or_false] at ha
    rcases ha with rfl | rfl <;> decide
  | 1, ha =>
    simp only [awP, List.getD_cons_succ, List.getD_cons_zero, List.mem_cons, List.not_mem_nil, or_false] at ha
    subst ha
    decide
  | i + 2, ha => simp [awP] at ha
theorem aw_todo : (PlS.first (St.new 3) awP).todo = 27 ∧ (PlS.first (St.new 3) awP).cnt = 3 := by decide +kernel
end Go.Proofs.YtjehiekmlbeaeaaGreat
