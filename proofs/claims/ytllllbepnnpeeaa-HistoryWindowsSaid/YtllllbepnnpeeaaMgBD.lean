/-
  Stage 11: what the laws let an owner and thieves do (pure; names no function).
  Stage 11, plain mathematics: the chapter's examples; what a plan of a law gives. No function is named.
  Plain mathematics of the search for an order: what is left, what a try of one operation says. No function is named.
-/
import Derived.Test.YtllllbepnnpeeaaPlyB
import Derived.Test.YtllllbepnnpeeaaMgAA
import Derived.Test.YtllllbepnnpeeaaMgBB
namespace Go.Proofs.Ytllllbepnnpeeaa
open Go Go.RowKit
set_option linter.unusedSimpArgs false
set_option linter.unusedVariables false

/-- One number z, whose keep is m, goes into a plan. -/
def planZ (z m : Int) (P : List (List ActR)) : List (List ActR) :=
  if 0 < m ∧ m < P.length then P.set m.toNat (P.getD m.toNat [] ++ [⟨2, 0⟩])
  else if z.tmod 3 = 0 then P.set 0 (P.getD 0 [] ++ [⟨1, 0⟩])
  else P.set 0 (P.getD 0 [] ++ [⟨0, z.tmod 4⟩])
/-- All is well with a plan of c acts. -/
structure PlnOk (c : Nat) (P : List (List ActR)) : Prop where
  can : ∀ i a, i < P.length → a ∈ P.getD i [] → canR i a = true
  vl : ∀ i a, a ∈ P.getD i [] → -3 ≤ a.v ∧ a.v ≤ 3
  sum : sumN (P.map List.length) = c
theorem planZ_len (z m : Int) (P : List (List ActR)) : (planZ z m P).length = P.length := by
  unfold planZ
  split
  · exact List.length_set
  · split <;> exact List.length_set
theorem set_ok {c k : Nat} {P : List (List ActR)} {a : ActR} (h : PlnOk c P) (hk : k < P.length) (ha : canR k a = true) (hv : -3 ≤ a.v ∧ a.v ≤ 3) : PlnOk (c + 1) (P.set k (P.getD k [] ++ [a])) := by
  have e : ∀ i, i ≠ k → (P.set k (P.getD k [] ++ [a])).getD i [] = P.getD i [] := fun i hi => by
    simp only [List.getD_eq_getElem?_getD]
    rw [List.getElem?_set_ne (fun e => hi e.symm)]
  have e2 : (P.set k (P.getD k [] ++ [a])).getD k [] = P.getD k [] ++ [a] := by
    rw [List.getD_eq_getElem?_getD, List.getElem?_set_self hk]
    rfl
  refine ⟨fun i b hi hb => ?_, fun i b hb => ?_, ?_⟩
  · rw [List.length_set] at hi
    by_cases hik : i = k
    · subst hik
      rw [e2, List.mem_append, List.mem_singleton] at hb
      rcases hb with hb | rfl
      · exact h.can i b hi hb
      · exact ha
    · rw [e i hik] at hb
      exact h.can i b hi hb
  · by_cases hik : i = k
    · subst hik
      rw [e2, List.mem_append, List.mem_singleton] at hb
      rcases hb with hb | rfl
      · exact h.vl i b hb
      · exact hv
    · rw [e i hik] at hb
      exact h.vl i b hb
  · have h1 := sumN_set (P.map List.length) k (P.getD k [] ++ [a]).length (by rw [List.length_map]; exact hk)
    rw [getD_map List.length P k [] 0 rfl, h.sum] at h1
    rw [List.map_set]
    rw [List.length_append] at h1
    simp only [List.length_singleton] at h1
    rw [List.length_append]
    simp only [List.length_singleton]
    omega
theorem planZ_ok {c : Nat} {z m : Int} {P : List (List ActR)} (h : PlnOk c P) (h0 : 0 < P.length) : PlnOk (c + 1) (planZ z m P) := by
  unfold planZ
  split
  · rename_i hm
    refine set_ok h (by omega) ?_ ⟨by decide, by decide⟩
    unfold canR
    rw [if_neg (by omega)]
    rfl
  · split
    · exact set_ok h h0 rfl ⟨by decide, by decide⟩
    · have h1 := Int.tmod_lt_of_pos z (show (0 : Int) < 4 by decide)
      have h2 : -4 < z.tmod 4 := by
        have := Int.lt_tmod_of_pos z (show (0 : Int) < 4 by decide)
        omega
      exact set_ok h h0 rfl ⟨by show -3 ≤ z.tmod 4; omega, by show z.tmod 4 ≤ 3; omega⟩
/-- The plan of the numbers zs from 1 on, j of them: keep gives a number's keep. -/
def planJ (keep : Nat → Int) (zs : List Int) (K : Nat) : Nat → List (List ActR)
  | 0 => List.replicate K []
  | j + 1 => planZ (zs.getD (j + 1) 0) (keep (j + 1)) (planJ keep zs K j)
theorem planJ_len (keep : Nat → Int) (zs : List Int) (K j : Nat) : (planJ keep zs K j).length = K := by
  induction j with
  | zero => exact List.length_replicate
  | succ j ih => rw [planJ, planZ_len, ih]
theorem planJ_ok (keep : Nat → Int) (zs : List Int) {K : Nat} (hK : 0 < K) (j : Nat) : PlnOk j (planJ keep zs K j) := by
  induction j with
  | zero =>
    have e : ∀ i, (List.replicate K ([] : List ActR)).getD i [] = [] := fun i => by
      rw [List.getD_eq_getElem?_getD, List.getElem?_replicate]
      split <;> rfl
    refine ⟨fun i a hi ha => ?_, fun i a ha => ?_, sumN_zero (fun i hi => ?_)⟩
    · rw [planJ, e] at ha; cases ha
    · rw [planJ, e] at ha; cases ha
    · rw [getD_map List.length _ i [] 0 rfl, planJ, e]; rfl
  | succ j ih => exact planZ_ok ih (by rw [planJ_len]; exact hK)
/-- What Play asks of a plan. -/
theorem PlnOk.first {c : Nat} {P : List (List ActR)} (h : PlnOk c P) (s : St) : PlanIn P ∧ (PlS.first s P).todo = 9 * c ∧ (PlS.first s P).cnt = c ∧ ∀ i, i < P.length → (P.getD i []).filter (canR i) = P.getD i [] := by
  have hf : ∀ i, i < P.length → (P.getD i []).filter (canR i) = P.getD i [] := fun i hi => List.filter_eq_self.2 (fun a ha => h.can i a hi ha)
  have hp : ∀ f : Plr → Nat, (plrs P).map f = P.map (fun l => f ⟨l, .no⟩) := fun f => by
    refine List.ext_getElem (by rw [List.length_map, List.length_map, plrs_len]) (fun i h1 h2 => ?_)
    rw [List.length_map] at h2
    rw [List.getElem_map, List.getElem_map]
    unfold plrs
    rw [List.getElem_map, List.getElem_range]
    rw [hf i h2, List.getD_eq_getElem?_getD, List.getElem?_eq_getElem h2]
    rfl
  refine ⟨fun i a ha => by have := h.vl i a ha; omega, ?_, ?_, hf⟩
  · show sumN ((plrs P).map Plr.todo) = 9 * c
    rw [hp Plr.todo, ← h.sum]
    clear hp hf h
    induction P with
    | nil => rfl
    | cons a r ih =>
      show (9 * a.length + 0) + sumN (r.map fun l => Plr.todo ⟨l, .no⟩) = 9 * (a.length + sumN (r.map List.length))
      rw [ih]; omega
  · show 0 + sumN ((plrs P).map Plr.cnt) = c
    rw [hp Plr.cnt, ← h.sum]
    clear hp hf h
    induction P with
    | nil => rfl
    | cons a r ih =>
      show 0 + ((a.length + 0) + sumN (r.map fun l => Plr.cnt ⟨l, .no⟩)) = a.length + sumN (r.map List.length)
      omega
end Go.Proofs.Ytllllbepnnpeeaa

namespace Go.Proofs.Ytllllbepnnpeeaa
open Go Go.RowKit
set_option linter.unusedSimpArgs false
set_option linter.unusedVariables false

/-- The players go on one after another, n steps at most. -/
def endF (C : Int) : Nat → Nat → PlS → Option (List OpR)
  | 0, _, _ => none
  | n + 1, i, S => if S.P.length ≤ i then some S.out else if (S.P.getD i .no).busy = true then endF C n i (pickP C i S) else endF C n (i + 1) S
theorem endF_ends {C : Int} : ∀ (n : Nat) {i : Nat} {S : PlS} {r : List OpR}, endF C n i S = some r → Ends C i S r
  | 0, _, _, _, h => by cases h
  | n + 1, i, S, r, h => by
    unfold endF at h
    by_cases h1 : S.P.length ≤ i
    · rw [if_pos h1] at h
      obtain rfl := Option.some.inj h
      exact .over h1
    · rw [if_neg h1] at h
      cases hb : (S.P.getD i .no).busy with
      | true =>
        rw [if_pos hb] at h
        exact .step (by omega) hb (endF_ends n h)
      | false =>
        rw [if_neg (by rw [hb]; decide)] at h
        exact .rest (by omega) hb (endF_ends n h)
/-- The plan of awake, what comes of it, and what can't be put in order. -/
def awP : List (List ActR) := [[⟨0, 5⟩, ⟨1, 0⟩], [⟨2, 0⟩]]
def awO : List OpR := [⟨0, 0, 0, 3, 0, 5⟩, ⟨1, 0, 4, 10, 1, 5⟩, ⟨2, 1, 11, 12, 2, 0⟩]
def awE : List OpR := [⟨1, 0, 0, 1, 1, 5⟩, ⟨0, 0, 2, 5, 0, 5⟩]
theorem aw_end : endF 1 60 0 (PlS.first (St.new 3) awP) = some awO := by decide +kernel
theorem aw_plays {r : List OpR} (h : Plays (St.new 3) 1 awP [] r) : r = awO := by
  unfold Plays at h
  rw [if_neg (by simp [awP])] at h
  exact h.same (endF_ends 60 aw_end)
theorem aw_lin : LinP 1 awO := ⟨awO, List.Perm.refl _, by simp [awO, RT], [], by decide +kernel⟩
theorem aw_not : ¬ LinP 1 awE := by
  rintro ⟨ord, hp, hr, l, hl⟩
  cases ord with
  | nil => exact absurd hp.length_eq (by simp [awE])
  | cons x rest =>
    have hx : x ∈ awE := hp.subset (List.mem_cons_self ..)
    simp only [awE, List.mem_cons, List.not_mem_nil, or_false] at hx
    rcases hx with rfl | rfl
    · cases hl
    · have hm : (⟨1, 0, 0, 1, 1, 5⟩ : OpR) ∈ (⟨0, 0, 2, 5, 0, 5⟩ : OpR) :: rest := hp.symm.subset (by simp [awE])
      rcases List.mem_cons.1 hm with e | e
      · cases e
      · have := (List.pairwise_cons.1 hr).1 _ e
        revert this
        unfold RT
        decide
theorem aw_in : PlanIn awP := by
  intro i a ha
  match i, ha with
  | 0, ha =>
    simp only [awP, List.getD_cons_zero, List.mem_cons, List.not_mem_nil, or_false] at ha
    rcases ha with rfl | rfl <;> decide
  | 1, ha =>
    simp only [awP, List.getD_cons_succ, List.getD_cons_zero, List.mem_cons, List.not_mem_nil, or_false] at ha
    subst ha
    decide
  | i + 2, ha => simp [awP] at ha
theorem aw_todo : (PlS.first (St.new 3) awP).todo = 27 ∧ (PlS.first (St.new 3) awP).cnt = 3 := by decide +kernel
end Go.Proofs.Ytllllbepnnpeeaa

namespace Go.Proofs.Ytllllbepnnpeeaa
open Go Go.RowKit
set_option linter.unusedSimpArgs false
set_option linter.unusedVariables false

abbrev OpR.zero : OpR := ⟨0, 0, 0, 0, 0, 0⟩
/-- A well-formed operation. -/
def WfO (o : OpR) : Prop := Formed o ∧ 0 ≤ o.m ∧ 0 ≤ o.a ∧ o.a ≤ o.b
instance (o : OpR) : Decidable (WfO o) := by unfold WfO Formed; infer_instance
/-- The places of what has not been performed. -/
def undI (ops : List OpR) (d : List Bool) : List Nat := (List.range ops.length).filter fun i => !d.getD i false
def und (ops : List OpR) (d : List Bool) : List OpR := (undI ops d).map fun i => ops.getD i .zero
theorem und_len (ops : List OpR) (d : List Bool) : (und ops d).length = (undI ops d).length := List.length_map ..
theorem undI_mem {ops : List OpR} {d : List Bool} {i : Nat} : i ∈ undI ops d ↔ i < ops.length ∧ d.getD i false = false := by
  unfold undI
  rw [List.mem_filter, List.mem_range]
  simp
theorem undI_nodup (ops : List OpR) (d : List Bool) : (undI ops d).Nodup := (List.nodup_range).filter _
theorem undI_set {ops : List OpR} {d : List Bool} {j : Nat} (hj : j < d.length) : undI ops (d.set j true) = (undI ops d).filter (· != j) := by
  unfold undI
  rw [List.filter_filter]
  refine List.filter_congr fun i _ => ?_
  by_cases e : j = i
  · subst e
    rw [set_at _ _ _ _ hj]
    simp
  · rw [set_off _ _ _ _ _ e]
    have : (i != j) = true := by simp; omega
    rw [this, Bool.true_and]
theorem undI_perm {ops : List OpR} {d : List Bool} {j : Nat} (hj : j < d.length) (hm : j ∈ undI ops d) : (undI ops d).Perm (j :: undI ops (d.set j true)) := by
  rw [undI_set hj, ← (undI_nodup ops d).erase_eq_filter]
  exact List.perm_cons_erase hm
theorem und_perm {ops : List OpR} {d : List Bool} {j : Nat} (hj : j < d.length) (hm : j ∈ undI ops d) : (und ops d).Perm (ops.getD j .zero :: und ops (d.set j true)) := (undI_perm hj hm).map _
theorem und_mem {ops : List OpR} {d : List Bool} {o : OpR} : o ∈ und ops d ↔ ∃ i, i ∈ undI ops d ∧ ops.getD i .zero = o := by
  unfold und
  rw [List.mem_map]
theorem undI_none (ops : List OpR) (n : Nat) : undI ops (List.replicate n false) = List.range ops.length := by
  unfold undI
  rw [List.filter_eq_self]
  intro i _
  rw [getD_rep]
  rfl
theorem und_none (ops : List OpR) (n : Nat) : und ops (List.replicate n false) = ops := by
  unfold und
  rw [undI_none]
  apply List.ext_getElem
  · simp
  · intro i h1 h2
    rw [List.getElem_map, List.getElem_range, List.getD_eq_getElem?_getD, List.getElem?_eq_getElem h2]
    rfl
/-- Whether the operation j can be the next one. -/
def Cand (cap : Int) (ops : List OpR) (d : List Bool) (l : List Int) (j : Nat) : Prop :=
  j ∈ undI ops d ∧ (∀ i, i ∈ undI ops d → (ops.getD j .zero).a ≤ (ops.getD i .zero).b) ∧ ∃ l', appO cap (ops.getD j .zero) l = some l' ∧ LinFrom cap (und ops (d.set j true)) l'
theorem lin_of_cand {cap : Int} {ops : List OpR} {d : List Bool} {l : List Int} {j : Nat} (hd : ops.length ≤ d.length) (h : Cand cap ops d l j) : LinFrom cap (und ops d) l := by
  obtain ⟨hm, hr, l', ha, hl⟩ := h
  have hj : j < d.length := by have := (undI_mem.1 hm).1; omega
  have hp := und_perm hj hm
  refine LinFrom.perm (LinFrom.cons (fun x hx => ?_) ha hl) hp.symm
  obtain ⟨i, hi, rfl⟩ := und_mem.1 (hp.symm.subset (List.mem_cons_of_mem _ hx))
  exact hr i hi
theorem cand_of_lin {cap : Int} {ops : List OpR} {d : List Bool} {l : List Int} (hd : ops.length ≤ d.length) (hw : ∀ o, o ∈ ops → o.a ≤ o.b) (hne : und ops d ≠ []) (h : LinFrom cap (und ops d) l) : ∃ j, Cand cap ops d l j := by
  obtain ⟨o, ops', l', hp, hr, ha, hl⟩ := LinFrom.split hne h
  obtain ⟨j, hj, rfl⟩ := und_mem.1 (hp.symm.subset (List.mem_cons_self ..))
  have hjl : j < ops.length := (undI_mem.1 hj).1
  have hp2 := und_perm (ops := ops) (d := d) (by omega) hj
  have hp3 : ops'.Perm (und ops (d.set j true)) := (hp.symm.trans hp2).cons_inv
  refine ⟨j, hj, fun i hi => ?_, l', ha, hl.perm hp3⟩
  have him : ops.getD i .zero ∈ und ops d := und_mem.2 ⟨i, hi, rfl⟩
  rcases List.mem_cons.1 (hp.subset him) with e | hm
  · rw [e]
    refine hw _ ?_
    rw [List.getD_eq_getElem?_getD, List.getElem?_eq_getElem hjl]
    exact List.getElem_mem hjl
  · exact hr _ hm
theorem und_nil {ops : List OpR} {d : List Bool} (h : (undI ops d).length = 0) : und ops d = [] := List.eq_nil_of_length_eq_zero (by rw [und_len]; exact h)
theorem undI_less {ops : List OpR} {d : List Bool} {j k : Nat} (hj : j < d.length) (hm : j ∈ undI ops d) (hk : (undI ops d).length = k + 1) : (undI ops (d.set j true)).length = k := by
  have := (undI_perm hj hm).length_eq
  rw [List.length_cons] at this
  omega
theorem appO_len {cap : Int} {o : OpR} {l l' : List Int} (h : appO cap o l = some l') : l'.length ≤ l.length + 1 := by
  unfold appO at h
  split at h
  · split at h
    · injection h with h; subst h; simp
    · cases h
  split at h
  · split at h
    · injection h with h; subst h; omega
    · cases h
  split at h
  · split at h
    · injection h with h; subst h; omega
    · cases h
  split at h
  · injection h with h; subst h; omega
  split at h
  · cases h
  split at h
  · split at h
    · injection h with h; subst h; simp; omega
    · cases h
  · split at h
    · injection h with h; subst h; simp; omega
    · cases h
/-- How many states a search remembers, at most. -/
def memoT : Nat → Nat
  | 0 => 0
  | k + 1 => 1 + 12 * memoT k
theorem memoT_12 : memoT 12 ≤ 100000000000000 := by decide
theorem memoT_mono : ∀ {k m : Nat}, k ≤ m → memoT k ≤ memoT m := by
  intro k m h
  induction m with
  | zero => have : k = 0 := by omega
            subst this; exact Nat.le_refl _
  | succ m ih =>
    by_cases e : k = m + 1
    · subst e; exact Nat.le_refl _
    · have := ih (by omega)
      show memoT k ≤ 1 + 12 * memoT m
      omega

/-- Other values for the same: what is taken has names of its own. -/
structure Ren (ops : List OpR) (f : Int → Int) : Prop where
  nz : ∀ o, o ∈ ops → o.c = 1 → f o.v ≠ 0
  inj : ∀ x y, f x = f y → f y ≠ 0 → x = y
def renO (f : Int → Int) (o : OpR) : OpR := { o with v := f o.v }
theorem getLastD_map (f : Int → Int) (l : List Int) (h : l ≠ []) : (l.map f).getLastD 0 = f (l.getLastD 0) := by
  rw [List.getLastD_eq_getLast?, List.getLastD_eq_getLast?, List.getLast?_map, List.getLast?_eq_some_getLast h]
  rfl
theorem ren_app {f : Int → Int} {o : OpR} (cap : Int) (l : List Int) (hnz : o.c = 1 → f o.v ≠ 0) (hi : ∀ x y, f x = f y → f y ≠ 0 → x = y) (hw : Formed o) : appO cap (renO f o) (l.map f) = (appO cap o l).map (List.map f) := by
  unfold appO renO
  simp only [List.length_map]
  split
  · split <;> simp
  split
  · split <;> simp
  split
  · split <;> simp
  split
  · simp
  split
  · simp
  have hne : l ≠ [] := fun e => by subst e; simp at *
  have hc : o.c = 1 := by
    rcases hw with ⟨_, h⟩ | ⟨_, h⟩ | ⟨_, h⟩ <;> omega
  split
  · rw [getLastD_map f l hne]
    by_cases e : l.getLastD 0 = o.v
    · rw [if_pos (by rw [e]), if_pos e]
      simp [List.map_dropLast]
    · rw [if_neg (fun k => e (hi _ _ k (hnz hc))), if_neg e]
      rfl
  · cases l with
    | nil => exact absurd rfl hne
    | cons a l =>
      show (if f a = f o.v then some (l.map f) else none) = (if a = o.v then some l else none).map (List.map f)
      by_cases e : a = o.v
      · rw [if_pos (by rw [e]), if_pos e]
        rfl
      · rw [if_neg (fun k => e (hi _ _ k (hnz hc))), if_neg e]
        rfl
theorem ren_run {f : Int → Int} (cap : Int) (A : List OpR) (l : List Int) (hr : Ren A f) (hw : ∀ o, o ∈ A → Formed o) : runL cap (A.map (renO f)) (l.map f) = (runL cap A l).map (List.map f) := by
  induction A generalizing l with
  | nil => rfl
  | cons o A ih =>
    show (appO cap (renO f o) (l.map f)).bind (runL cap (A.map (renO f))) = ((appO cap o l).bind (runL cap A)).map (List.map f)
    rw [ren_app cap l (hr.nz o (List.mem_cons_self ..)) hr.inj (hw o (List.mem_cons_self ..))]
    cases appO cap o l with
    | none => rfl
    | some l' => exact ih l' ⟨fun x hx => hr.nz x (List.mem_cons_of_mem _ hx), hr.inj⟩ (fun x hx => hw x (List.mem_cons_of_mem _ hx))
theorem perm_map_inv {α β : Type} {f : α → β} {m k : List β} (h : m.Perm k) : ∀ {l : List α}, l.map f = k → ∃ l' : List α, m = l'.map f ∧ l'.Perm l := by
  induction h with
  | nil =>
    intro l e
    rw [List.map_eq_nil_iff] at e
    subst e
    exact ⟨[], rfl, List.Perm.refl _⟩
  | cons x _ ih =>
    intro l e
    cases l with
    | nil => cases e
    | cons a l =>
      rw [List.map_cons] at e
      injection e with e1 e2
      obtain ⟨l', h1, h2⟩ := ih e2
      exact ⟨a :: l', by rw [h1, List.map_cons, e1], h2.cons a⟩
  | swap x y k =>
    intro l e
    cases l with
    | nil => cases e
    | cons a l =>
      cases l with
      | nil => cases e
      | cons b l =>
        rw [List.map_cons, List.map_cons] at e
        injection e with e1 e2
        injection e2 with e2 e3
        exact ⟨b :: a :: l, by rw [List.map_cons, List.map_cons, e1, e2, e3], List.Perm.swap _ _ _⟩
  | trans _ _ ih1 ih2 =>
    intro l e
    obtain ⟨l2, h1, h2⟩ := ih2 e
    obtain ⟨l3, h3, h4⟩ := ih1 h1.symm
    exact ⟨l3, h3, h4.trans h2⟩
theorem ren_lin {f : Int → Int} {cap : Int} {ops : List OpR} (hr : Ren ops f) (hw : ∀ o, o ∈ ops → Formed o) : LinP cap (ops.map (renO f)) ↔ LinP cap ops := by
  constructor
  · rintro ⟨ord, hp, hpw, l, hl⟩
    obtain ⟨ord', ho, hp'⟩ : ∃ ord' : List OpR, ord = ord'.map (renO f) ∧ ord'.Perm ops := by
      exact perm_map_inv hp rfl
    subst ho
    refine ⟨ord', hp', ?_, ?_⟩
    · rw [List.pairwise_map] at hpw
      exact hpw
    · have := ren_run cap ord' [] (f := f) ⟨fun o hoo => hr.nz o (hp'.subset hoo), hr.inj⟩ (fun o hoo => hw o (hp'.subset hoo))
      rw [List.map_nil, hl] at this
      cases hx : runL cap ord' [] with
      | none => rw [hx] at this; cases this
      | some l' => exact ⟨l', rfl⟩
  · rintro ⟨ord, hp, hpw, l, hl⟩
    refine ⟨ord.map (renO f), hp.map _, ?_, l.map f, ?_⟩
    · rw [List.pairwise_map]
      exact hpw
    · have := ren_run cap ord [] (f := f) ⟨fun o hoo => hr.nz o (hp.subset hoo), hr.inj⟩ (fun o hoo => hw o (hp.subset hoo))
      rw [List.map_nil, hl] at this
      exact this
end Go.Proofs.Ytllllbepnnpeeaa
