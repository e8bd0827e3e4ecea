/-
  Plain mathematics of the search for an order: what is left, what a try of one operation says. No function is named.
  Slices whose elements are rows of k cells: what came in, what is the call's own, appends. No function and no type is named.
  Stage 11: operations as rows; which are well-formed. (Written by wip/gen_lin.py.)
-/
import Derived.Test.YtjehiekmlbeaeaaGreatMgAL
import Derived.Test.YtjehiekmlbeaeaaGreatMgAB
import Derived.LoopTactic
namespace Go.Proofs.YtjehiekmlbeaeaaGreat
open Go Go.RowKit
set_option linter.unusedSimpArgs false
set_option linter.unusedVariables false

abbrev OpR.zero : OpR := ⟨0, 0, 0, 0, 0, 0⟩
/-- A well-formed operation. -/
def WfO (o : OpR) : Prop := Formed o ∧ 0 ≤ o.m ∧ 0 ≤ o.a ∧ o.a ≤ o.b
instance (o : OpR) : Decidable (WfO o) := by unfold WfO Formed; infer_instance
/-- The places of what has not been performed. -/
def undI (ops : List OpR) (d : List Bool) : List Nat := (List.range ops.length).filter fun i => !d.getD i false
def und (ops : List OpR) (d : List Bool) : List OpR := (undI ops d).map fun i => ops.getD i .zero
theorem und_len (ops : List OpR) (d : List Bool) : (und ops d).length = (undI ops d).length := List.length_map ..
theorem undI_mem {ops : List OpR} {d : List Bool} {i : Nat} : i ∈ undI ops d ↔ i < ops.length ∧ d.getD i false = false := by
  unfold undI
  rw [List.mem_filter, List.mem_range]
  simp
theorem undI_nodup (ops : List OpR) (d : List Bool) : (undI ops d).Nodup := (List.nodup_range).filter _
theorem undI_set {ops : List OpR} {d : List Bool} {j : Nat} (hj : j < d.length) : undI ops (d.set j true) = (undI ops d).filter (· != j) := by
  unfold undI
  rw [List.filter_filter]
  refine List.filter_congr fun i _ => ?_
  by_cases e : j = i
  · subst e
    rw [set_at _ _ _ _ hj]
    simp
  · rw [set_off _ _ _ _ _ e]
    have : (i != j) = true := by simp; omega
    rw [this, Bool.true_and]
theorem undI_perm {ops : List OpR} {d : List Bool} {j : Nat} (hj : j < d.length) (hm : j ∈ undI ops d) : (undI ops d).Perm (j :: undI ops (d.set j true)) := by
  rw [undI_set hj, ← (undI_nodup ops d).erase_eq_filter]
  exact List.perm_cons_erase hm
theorem und_perm {ops : List OpR} {d : List Bool} {j : Nat} (hj : j < d.length) (hm : j ∈ undI ops d) : (und ops d).Perm (ops.getD j .zero :: und ops (d.set j true)) := (undI_perm hj hm).map _
theorem und_mem {ops : List OpR} {d : List Bool} {o : OpR} : o ∈ und ops d ↔ ∃ i, i ∈ undI ops d ∧ ops.getD i .zero = o := by
  unfold und
  rw [List.mem_map]
theorem undI_none (ops : List OpR) (n : Nat) : undI ops (List.replicate n false) = List.range ops.length := by
  unfold undI
  rw [List.filter_eq_self]
  intro i _
  rw [getD_rep]
  rfl
theorem und_none (ops : List OpR) (n : Nat) : und ops (List.replicate n false) = ops := by
  unfold und
  rw [undI_none]
  apply List.ext_getElem
  · simp
  · intro i h1 h2
    rw [List.getElem_map, List.getElem_range, List.getD_eq_getElem?_getD, List.getElem?_eq_getElem h2]
    rfl
/-- Whether the operation j can be the next one. -/
def Cand (cap : Int) (ops : List OpR) (d : List Bool) (l : List Int) (j : Nat) : Prop :=
  j ∈ undI ops d ∧ (∀ i, i ∈ undI ops d → (ops.getD j .zero).a ≤ (ops.getD i .zero).b) ∧ ∃ l', appO cap (ops.getD j .zero) l = some l' ∧ LinFrom cap (und ops (d.set j true)) l'
theorem lin_of_cand {cap : Int} {ops : List OpR} {d : List Bool} {l : List Int} {j : Nat} (hd : ops.length ≤ d.length) (h : Cand cap ops d l j) : LinFrom cap (und ops d) l := by
  obtain ⟨hm, hr, l', ha, hl⟩ := h
  have hj : j < d.length := by have := (undI_mem.1 hm).1; omega
  have hp := und_perm hj hm
  refine LinFrom.perm (LinFrom.cons (fun x hx => ?_) ha hl) hp.symm
  obtain ⟨i, hi, rfl⟩ := und_mem.1 (hp.symm.subset (List.mem_cons_of_mem _ hx))
  exact hr i hi
theorem cand_of_lin {cap : Int} {ops : List OpR} {d : List Bool} {l : List Int} (hd : ops.length ≤ d.length) (hw : ∀ o, o ∈ ops → o.a ≤ o.b) (hne : und ops d ≠ []) (h : LinFrom cap (und ops d) l) : ∃ j, Cand cap ops d l j := by
  obtain ⟨o, ops', l', hp, hr, ha, hl⟩ := LinFrom.split hne h
  obtain ⟨j, hj, rfl⟩ := und_mem.1 (hp.symm.subset (List.mem_cons_self ..))
  have hjl : j < ops.length := (undI_mem.1 hj).1
  have hp2 := und_perm (ops := ops) (d := d) (by omega) hj
  have hp3 : ops'.Perm (und ops (d.set j true)) := (hp.symm.trans hp2).cons_inv
  refine ⟨j, hj, fun i hi => ?_, l', ha, hl.perm hp3⟩
  have him : ops.getD i .zero ∈ und ops d := und_mem.2 ⟨i, hi, rfl⟩
  rcases List.mem_cons.1 (hp.subset him) with e | hm
  · rw [e]
    refine hw _ ?_
    rw [List.getD_eq_getElem?_getD, List.getElem?_eq_getElem hjl]
    exact List.getElem_mem hjl
  · exact hr _ hm
theorem und_nil {ops : List OpR} {d : List Bool} (h : (undI ops d).length = 0) : und ops d = [] := List.eq_nil_of_length_eq_zero (by rw [und_len]; exact h)
theorem undI_less {ops : List OpR} {d : List Bool} {j k : Nat} (hj : j < d.length) (hm : j ∈ undI ops d) (hk : (undI ops d).length = k + 1) : (undI ops (d.set j true)).length = k := by
  have := (undI_perm hj hm).length_eq
  rw [List.length_cons] at this
  omega
theorem appO_len {cap : Int} {o : OpR} {l l' : List Int} (h : appO cap o l = some l') : l'.length ≤ l.length + 1 := by
  unfold appO at h
  split at h
  · split at h
    · injection h with h; subst h; simp
    · cases h
  split at h
  · split at h
    · injection h with h; subst h; omega
    · cases h
  split at h
  · split at h
    · injection h with h; subst h; omega
    · cases h
  split at h
  · injection h with h; subst h; omega
  split at h
  · cases h
  split at h
  · split at h
    · injection h with h; subst h; simp; omega
    · cases h
  · split at h
    · injection h with h; subst h; simp; omega
    · cases h
/-- How many states a search remembers, at most. -/
def memoT : Nat → Nat
  | 0 => 0
  | k + 1 => 1 + 12 * memoT k
theorem memoT_12 : memoT 12 ≤ 100000000000000 := by decide
theorem memoT_mono : ∀ {k m : Nat}, k ≤ m → memoT k ≤ memoT m := by
  intro k m h
  induction m with
  | zero => have : k = 0 := by omega
            subst this; exact Nat.le_refl _
  | succ m ih =>
    by_cases e : k = m + 1
    · subst e; exact Nat.le_refl _
    · have := ih (by omega)
      show memoT k ≤ 1 + 12 * memoT m
      omega

/-- Other values for the same: what is taken has names of its own. -/
structure Ren (ops : List OpR) (f : Int → Int) : Prop where
  nz : ∀ o, o ∈ ops → o.c = 1 → f o.v ≠ 0
  inj : ∀ x y, f x = f y → f y ≠ 0 → x = y
def renO (f : Int → Int) (o : OpR) : OpR := { o with v := f o.v }
theorem getLastD_map (f : Int → Int) (l : List Int) (h : l ≠ []) : (l.map f).getLastD 0 = f (l.getLastD 0) := by
  rw [List.getLastD_eq_getLast?, List.getLastD_eq_getLast?, List.getLast?_map, List.getLast?_eq_some_getLast h]
  rfl
theorem ren_app {f : Int → Int} {o : OpR} (cap : Int) (l : List Int) (hnz : o.c = 1 → f o.v ≠ 0) (hi : ∀ x y, f x = f y → f y ≠ 0 → x = y) (hw : Formed o) : appO cap (renO f o) (l.map f) = (appO cap o l).map (List.map f) := by
  unfold appO renO
  simp only [List.length_map]
  split
  · split <;> simp
  split
  · split <;> simp
  split
  · split <;> simp
  split
  · simp
  split
  · simp
  have hne : l ≠ [] := fun e => by subst e; simp at *
  have hc : o.c = 1 := by
    rcases hw with ⟨_, h⟩ | ⟨_, h⟩ | ⟨_, h⟩ <;> omega
  split
  · rw [getLastD_map f l hne]
    by_cases e : l.getLastD 0 = o.v
    · rw [if_pos (by rw [e]), if_pos e]
      simp [List.map_dropLast]
    · rw [if_neg (fun k => e (hi _ _ k (hnz hc))), if_neg e]
      rfl
  · cases l with
    | nil => exact absurd rfl hne
    | cons a l =>
      show (if f a = f o.v then some (l.map f) else none) = (if a = o.v then some l else none).map (List.map f)
      by_cases e : a = o.v
      · rw [if_pos (by rw [e]), if_pos e]
        rfl
      · rw [if_neg (fun k => e (hi _ _ k (hnz hc))), if_neg e]
        rfl
theorem ren_run {f : Int → Int} (cap : Int) (A : List OpR) (l : List Int) (hr : Ren A f) (hw : ∀ o, o ∈ A → Formed o) : runL cap (A.map (renO f)) (l.map f) = (runL cap A l).map (List.map f) := by
  induction A generalizing l with
  | nil => rfl
  | cons o A ih =>
    show (appO cap (renO f o) (l.map f)).bind (runL cap (A.map (renO f))) = ((appO cap o l).bind (runL cap A)).map (List.map f)
    rw [ren_app cap l (hr.nz o (List.mem_cons_self ..)) hr.inj (hw o (List.mem_cons_self ..))]
    cases appO cap o l with
    | none => rfl
    | some l' => exact ih l' ⟨fun x hx => hr.nz x (List.mem_cons_of_mem _ hx), hr.inj⟩ (fun x hx => hw x (List.mem_cons_of_mem _ hx))
theorem perm_map_inv {α β : Type} {f : α → β} {m k : List β} (h : m.Perm k) : ∀ {l : List α}, l.map f = k → ∃ l' : List α, m = l'.map f ∧ l'.Perm l := by
  induction h with
  | nil =>
    intro l e
    rw [List.map_eq_nil_iff] at e
    subst e
    exact ⟨[], rfl, List.Perm.refl _⟩
  | cons x _ ih =>
    intro l e
    cases l with
    | nil => cases e
    | cons a l =>
      rw [List.map_cons] at e
      injection e with e1 e2
      obtain ⟨l', h1, h2⟩ := ih e2
      exact ⟨a :: l', by rw [h1, List.map_cons, e1], h2.cons a⟩
  | swap x y k =>
    intro l e
    cases l with
    | nil => cases e
    | cons a l =>
      cases l with
      | nil => cases e
      | cons b l =>
        rw [List.map_cons, List.map_cons] at e
        injection e with e1 e2
        injection e2 with e2 e3
        exact ⟨b :: a :: l, by rw [List.map_cons, List.map_cons, e1, e2, e3], List.Perm.swap _ _ _⟩
  | trans _ _ ih1 ih2 =>
    intro l e
    obtain ⟨l2, h1, h2⟩ := ih2 e
    obtain ⟨l3, h3, h4⟩ := ih1 h1.symm
    exact ⟨l3, h3, h4.trans h2⟩
theorem ren_lin {f : Int → Int} {cap : Int} {ops : List OpR} (hr : Ren ops f) (hw : ∀ o, o ∈ ops → Formed o) : LinP cap (ops.map (renO f)) ↔ LinP cap ops := by
  constructor
  · rintro ⟨ord, hp, hpw, l, hl⟩
    obtain ⟨ord', ho, hp'⟩ : ∃ ord' : List OpR, ord = ord'.map (renO f) ∧ ord'.Perm ops := by
      exact perm_map_inv hp rfl
    subst ho
    refine ⟨ord', hp', ?_, ?_⟩
    · rw [List.pairwise_map] at hpw
      exact hpw
    · have := ren_run cap ord' [] (f := f) ⟨fun o hoo => hr.nz o (hp'.subset hoo), hr.inj⟩ (fun o hoo => hw o (hp'.subset hoo))
      rw [List.map_nil, hl] at this
      cases hx : runL cap ord' [] with
      | none => rw [hx] at this; cases this
      | some l' => exact ⟨l', rfl⟩
  · rintro ⟨ord, hp, hpw, l, hl⟩
    refine ⟨ord.map (renO f), hp.map _, ?_, l.map f, ?_⟩
    · rw [List.pairwise_map]
      exact hpw
    · have := ren_run cap ord [] (f := f) ⟨fun o hoo => hr.nz o (hp.subset hoo), hr.inj⟩ (fun o hoo => hw o (hp.subset hoo))
      rw [List.map_nil, hl] at this
      exact this
end Go.Proofs.YtjehiekmlbeaeaaGreat

namespace Go.Proofs.YtjehiekmlbeaeaaGreat
open Go Go.RowKit
set_option linter.unusedSimpArgs false

/-- Rows of k cells each. -/
def RowsK (k : Nat) (R : List (List Value)) : Prop := ∀ r, r ∈ R → r.length = k ∧ ∀ u, u ∈ r → u.oneCell' = true
theorem RowsK.nil (k : Nat) : RowsK k [] := fun r hr => by cases hr
theorem RowsK.cons {k : Nat} {r : List Value} {R : List (List Value)} (h : RowsK k R) (hr : r.length = k ∧ ∀ u, u ∈ r → u.oneCell' = true) : RowsK k (r :: R) := fun x hx => by
  rcases List.mem_cons.1 hx with rfl | hx
  · exact hr
  · exact h x hx
theorem RowsK.append {k : Nat} {R Q : List (List Value)} (h : RowsK k R) (h' : RowsK k Q) : RowsK k (R ++ Q) := fun x hx => by
  rcases List.mem_append.1 hx with hx | hx
  · exact h x hx
  · exact h' x hx
theorem RowsK.len {k : Nat} {R : List (List Value)} (h : RowsK k R) : R.flatten.length = R.length * k := by
  induction R with
  | nil => simp
  | cons r R ih =>
    rw [List.flatten_cons, List.length_append, ih (fun x hx => h x (List.mem_cons_of_mem _ hx)), (h r (List.mem_cons_self ..)).1, List.length_cons, Nat.add_mul]
    omega
theorem RowsK.one {k : Nat} {R : List (List Value)} (h : RowsK k R) : ∀ u, u ∈ R.flatten → u.oneCell' = true := by
  intro u hu
  obtain ⟨r, hr, hu⟩ := List.mem_flatten.1 hu
  exact (h r hr).2 u hu
theorem RowsK.get {k : Nat} {R : List (List Value)} (h : RowsK k R) {i j : Nat} (hi : i < R.length) (hj : j < k) : R.flatten[i * k + j]? = (R.getD i [])[j]? := by
  induction R generalizing i with
  | nil => simp at hi
  | cons r R ih =>
    have hr := (h r (List.mem_cons_self ..)).1
    rw [List.flatten_cons]
    cases i with
    | zero =>
      rw [Nat.zero_mul, Nat.zero_add, List.getElem?_append_left (by omega)]
      rfl
    | succ i =>
      rw [List.getElem?_append_right (by rw [hr, Nat.add_mul]; omega), hr, show (i + 1) * k + j - k = i * k + j by rw [Nat.add_mul]; omega, ih (fun x hx => h x (List.mem_cons_of_mem _ hx)) (by simpa using hi)]
      rfl
/-- The slice at a reads as the rows R. -/
def InG (w : World) (k : Nat) (a : Option Addr) (R : List (List Value)) : Prop :=
  R.length ≤ maxLen ∧ RowsK k R ∧ ∀ i, i < R.length → ∃ x : Addr, a = some x ∧ x.block < w.heap.size ∧ ∀ j, j < k → w.cell? (x.add (i * k + j)) = (R.getD i [])[j]?
section
variable {w w' : World} {k : Nat} {a : Option Addr} {R : List (List Value)}
theorem InG.below (h : InG w k a R) (hb : Below w.heap.size w w') : InG w' k a R :=
  ⟨h.1, h.2.1, fun i hi => by
    obtain ⟨x, e, hx, hc⟩ := h.2.2 i hi
    exact ⟨x, e, Nat.lt_of_lt_of_le hx hb.size, fun j hj => (hb.cell (by rw [block_add]; exact hx)).trans (hc j hj)⟩⟩
theorem InG.nil (w : World) (k : Nat) (a : Option Addr) : InG w k a [] := ⟨by unfold maxLen; simp, RowsK.nil k, fun i hi => absurd hi (by simp)⟩
/-- The cells of an element, as the walk spells them. -/
theorem InG.at_ (h : InG w k a R) {i : Nat} (hi : i < R.length) (hk : 0 < k) : ∃ x : Addr, a = some x ∧ x.block < w.heap.size ∧ w.cell? (x.add (i * k)) = (R.getD i [])[0]? ∧ ∀ j, j + 1 < k → w.cell? ⟨(x.add (i * k)).block, (x.add (i * k)).off + (j + 1), none⟩ = (R.getD i [])[j + 1]? := by
  obtain ⟨x, e, hx, hc⟩ := h.2.2 i hi
  refine ⟨x, e, hx, hc 0 hk, fun j hj => ?_⟩
  have h1 := hc (j + 1) hj
  have hlen : (R.getD i []).length = k := by
    rw [List.getD_eq_getElem?_getD, List.getElem?_eq_getElem hi]
    exact (h.2.1 _ (List.getElem_mem hi)).1
  rw [List.getElem?_eq_getElem (by omega)] at h1 ⊢
  exact cell_field (i := i * k) (j := j) h1
end
/-- The slice v is the call's own (nil, or a row from block B on) and holds the rows R. -/
def OwnG (w : World) (B : Nat) (t : TypeId) (k : Nat) (v : Value) (R : List (List Value)) : Prop := RowsK k R ∧ w.ownsRow B t k v R.length R.flatten
section
variable {w w' : World} {B k : Nat} {t : TypeId} {v : Value} {R : List (List Value)}
theorem OwnG.nil (w : World) (B : Nat) (t : TypeId) (k : Nat) : OwnG w B t k (.slice none 0 0) [] := ⟨RowsK.nil k, World.ownsRow_nil w B _ _⟩
theorem OwnG.lt (h : OwnG w B t k v R) : ∀ b, v.ownBlock = some b → B ≤ b ∧ b < w.heap.size := World.ownsRow.lt h.2
theorem OwnG.same (h : OwnG w B t k v R) (e : ∀ b, v.ownBlock = some b → w'.heap[b]? = w.heap[b]?) : OwnG w' B t k v R := by
  refine ⟨h.1, h.2.1, ?_⟩
  rcases h.2.2 with h2 | ⟨g, cap, cur, rfl, h2, hg, rest⟩
  · exact .inl h2
  · exact .inr ⟨g, cap, cur, rfl, h2, (e g rfl).trans hg, rest⟩
theorem OwnG.below (h : OwnG w B t k v R) (hb : Below w.heap.size w w') : OwnG w' B t k v R := h.same fun b hb' => hb.block b (h.lt b hb').2
theorem OwnG.mono {B' : Nat} (h : OwnG w B t k v R) (hb : B' ≤ B) : OwnG w B' t k v R := by
  refine ⟨h.1, h.2.1, ?_⟩
  rcases h.2.2 with h2 | ⟨g, cap, cur, rfl, h2, rest⟩
  · exact .inl h2
  · exact .inr ⟨g, cap, cur, rfl, Nat.le_trans hb h2, rest⟩
theorem OwnG.form (h : OwnG w B t k v R) : ∃ a c, v = .slice a R.length c ∧ R.length ≤ c := by
  rcases h.2.2 with ⟨rfl, h2⟩ | ⟨g, cap, cur, rfl, _, _, hn, _⟩
  · rw [h2]
    exact ⟨_, _, rfl, Nat.le_refl _⟩
  · exact ⟨_, _, rfl, hn⟩
/-- Its block, if it has elements. -/
theorem OwnG.blk (h : OwnG w B t k v R) (hR : R ≠ []) : ∃ g cap cur, v = .slice (some ⟨g, 0, none⟩) R.length cap ∧ B ≤ g ∧ Blk w g t cur ∧ R.length ≤ cap ∧ cap ≤ maxLen ∧ cur.size = cap * k ∧ ∀ i j, i < R.length → j < k → cur[i * k + j]? = (R.getD i [])[j]? := by
  rcases h.2.2 with ⟨rfl, h2⟩ | ⟨g, cap, cur, rfl, hb, hg, hn, hm, hs, hc⟩
  · exact absurd (List.eq_nil_of_length_eq_zero h2) hR
  · refine ⟨g, cap, cur, rfl, hb, hg, hn, hm, hs, fun i j hi hj => ?_⟩
    have hl : i * k + j < R.length * k := by
      have : (i + 1) * k ≤ R.length * k := Nat.mul_le_mul_right k hi
      rw [Nat.add_mul] at this
      omega
    rw [← h.1.get hi hj, ← hc, List.getElem?_take, if_pos hl, Array.getElem?_toList]
theorem OwnG.ty (h : OwnG w B t k v R) : ∀ b, v.ownBlock = some b → ∃ cur, Blk w b t cur := by
  intro b hb
  rcases h.2.2 with ⟨rfl, _⟩ | ⟨g, cap, cur, rfl, _, hg, _⟩
  · cases hb
  · simp only [Value.ownBlock, Option.some.injEq] at hb
    subst hb
    exact ⟨cur, hg⟩
theorem OwnG.inG (h : OwnG w B t k v R) : ∃ a c, v = .slice a R.length c ∧ R.length ≤ c ∧ InG w k a R := by
  by_cases hR : R = []
  · subst hR
    obtain ⟨a, c, e, hc⟩ := h.form
    exact ⟨a, c, e, hc, InG.nil _ _ _⟩
  · obtain ⟨g, cap, cur, e, _, hg, hn, hm, _, hc⟩ := h.blk hR
    refine ⟨_, _, e, hn, Nat.le_trans hn hm, h.1, fun i hi => ⟨_, rfl, hg.lt, fun j hj => ?_⟩⟩
    have ea : (⟨g, 0, none⟩ : Addr).add (i * k + j) = ⟨g, i * k + j, none⟩ := by
      unfold Addr.add
      split
      · rename_i h0
        rw [h0]
      · simp
    rw [ea, hg.at_, hc i j hi hj]
end
theorem info_partsG {P : Program} {e : TypeId} {z : Value} {k b : Nat} (h : (P.info? e).map (fun i => (i.zero, i.size, i.bytes)) = some (some z, k, b)) : ∃ i0, P.info? e = some i0 ∧ i0.zero = some z ∧ i0.size = k ∧ i0.bytes = b := by
  cases hi : P.info? e with
  | none => rw [hi] at h; simp at h
  | some i0 =>
    rw [hi] at h
    simp only [Option.map_some, Option.some.injEq, Prod.mk.injEq] at h
    exact ⟨i0, rfl, h.1, h.2.1, h.2.2⟩
/-- One row more. -/
theorem wpList_appG {w : World} {ops : Array Oper} {rest : List Oper} {o : Oper} {a : Act} {Q : Exit → Act → World → Prop} {ts t : TypeId} {z : Value} {k b : Nat} (hinfo : (Tryz.prog.info? t).map (fun i => (i.zero, i.size, i.bytes)) = some (some z, k, b))
    (hz : z.cells.size = k) (hk : 0 < k) (hb1 : b ≤ 1000) (hu : Tryz.prog.underlying ts = some (.slice t)) (hgd : o.guard = none) (s x : Operand)
    (ho : o.op = .call { callee := .builtin .append, args := #[s, x], argTypes := #[ts, ts] })
    {base : Nat} {v : Value} {R : List (List Value)} (hs : a.eval s = v) (hown : OwnG w base t k v R) {ad : Addr} {c : Nat} {r : List Value} (hx : a.eval x = .slice (some ad) 1 c) (hr : r.length = k ∧ ∀ u, u ∈ r → u.oneCell' = true) (hc : ∀ j u, r[j]? = some u → w.cell? (ad.add j) = some u)
    (hn : R.length + 1 ≤ 1000000) (hb : base ≤ w.heap.size)
    (h : ∀ v' w', OwnG w' base t k v' (R ++ [r]) → w.grownBy w' v.ownBlock → (v'.ownBlock = v.ownBlock ∨ v'.ownBlock = some w.heap.size) → wpList Tryz.prog ops Q rest (a.put o.dst v') w') :
    wpList Tryz.prog ops Q (o :: rest) a w := by
  obtain ⟨i0, hi, hz0, hz1, hz2⟩ := info_partsG hinfo
  refine wpList_append_own_at w hgd s x ts ho base t i0 _ k b hu hi hz0 hz1 hz2 hz hk v R.length R.flatten hs hown.2 ad 1 c r hx (by rw [hr.1]; omega) hc hr.2 (by unfold maxLen; omega) ?_ hb ?_
  · have : (R.length + 1) * b ≤ 1000000 * 1000 := Nat.mul_le_mul hn hb1
    omega
  intro v' w' h1 h2 _ h4
  refine h v' w' ⟨hown.1.append (RowsK.nil k |>.cons hr), ?_⟩ h2 h4
  rw [List.flatten_append, List.length_append]
  simpa using h1
/-- A row in a block of its own. -/
theorem made_row1 {w : World} {g : Nat} {t : TypeId} {r : List Value} (h : Blk w g t r.toArray) : ∀ j u, r[j]? = some u → w.cell? ((⟨g, 0, none⟩ : Addr).add j) = some u := by
  intro j u hu
  have ea : (⟨g, 0, none⟩ : Addr).add j = ⟨g, j, none⟩ := by
    unfold Addr.add
    split
    · rename_i h0
      rw [h0]
    · simp
  rw [ea, h.at_, List.getElem?_toArray]
  exact hu
/-- What an append leaves: the call began in w0. -/
theorem below_appG {w0 w w' : World} {t : TypeId} {k : Nat} {v : Value} {R : List (List Value)} (hb : Below w0.heap.size w0 w) (h : OwnG w w0.heap.size t k v R) (hg : w.grownBy w' v.ownBlock) : Below w0.heap.size w0 w' :=
  ⟨hg.os.trans hb.os, hg.tape.trans hb.tape, hg.output.trans hb.output, Nat.le_trans hb.size hg.size, fun b hb' => (hg.block b (Nat.lt_of_lt_of_le hb' hb.size) (fun e => by
    have := (h.lt b e.symm).1
    omega)).trans (hb.block b hb')⟩
end Go.Proofs.YtjehiekmlbeaeaaGreat

namespace Go.Proofs.YtjehiekmlbeaeaaGreat
open Go Go.RowKit
set_option linter.unusedSimpArgs false
set_option linter.unusedVariables false

/-- The cells of an operation. -/
abbrev opC (x : OpR) : Array Value := #[.int .i64 x.k, .int .i64 x.m, .int .i64 x.a, .int .i64 x.b, .int .i64 x.c, .int .i64 x.v]
abbrev opL (x : OpR) : List Value := [.int .i64 x.k, .int .i64 x.m, .int .i64 x.a, .int .i64 x.b, .int .i64 x.c, .int .i64 x.v]
theorem info_op : (Tryz.prog.info? 80).map (fun i => (i.zero, i.size, i.bytes)) = some (some (.agg #[.int .i64 0, .int .i64 0, .int .i64 0, .int .i64 0, .int .i64 0, .int .i64 0]), 6, 48) := by kernel_rfl
theorem opL_ok (x : OpR) : (opL x).length = 6 ∧ ∀ u, u ∈ opL x → u.oneCell' = true := ⟨rfl, fun u hu => by
  simp only [opL, List.mem_cons, List.not_mem_nil, or_false] at hu
  rcases hu with rfl | rfl | rfl | rfl | rfl | rfl <;> rfl⟩
theorem opL_inj {x y : OpR} (h : opL x = opL y) : x = y := by
  simp only [opL, List.cons.injEq, Value.int.injEq, true_and, and_true] at h
  cases x
  cases y
  simp only [OpR.mk.injEq]
  exact h
theorem rows_op (l : List OpR) : RowsK 6 (l.map opL) := fun r hr => by
  obtain ⟨x, _, rfl⟩ := List.mem_map.1 hr
  exact opL_ok x
/-- The slice at a reads as the operations l. -/
abbrev InOp (w : World) (a : Option Addr) (l : List OpR) : Prop := InG w 6 a (l.map opL)
theorem InOp.len {w : World} {a : Option Addr} {l : List OpR} (h : InOp w a l) : l.length ≤ maxLen := by have := h.1; rwa [List.length_map] at this
theorem InOp.op {w : World} {a : Option Addr} {l : List OpR} (h : InOp w a l) {i : Nat} (hi : i < l.length) : ∃ x : Addr, a = some x ∧ x.block < w.heap.size ∧ w.cell? (x.add (i * 6)) = some (.int .i64 (l.getD i .zero).k)
    ∧ w.cell? ⟨(x.add (i * 6)).block, (x.add (i * 6)).off + 1, none⟩ = some (.int .i64 (l.getD i .zero).m) ∧ w.cell? ⟨(x.add (i * 6)).block, (x.add (i * 6)).off + 2, none⟩ = some (.int .i64 (l.getD i .zero).a)
    ∧ w.cell? ⟨(x.add (i * 6)).block, (x.add (i * 6)).off + 3, none⟩ = some (.int .i64 (l.getD i .zero).b) ∧ w.cell? ⟨(x.add (i * 6)).block, (x.add (i * 6)).off + 4, none⟩ = some (.int .i64 (l.getD i .zero).c)
    ∧ w.cell? ⟨(x.add (i * 6)).block, (x.add (i * 6)).off + 5, none⟩ = some (.int .i64 (l.getD i .zero).v) := by
  obtain ⟨x, e, hx, h0, hc⟩ := h.at_ (i := i) (by rw [List.length_map]; exact hi) (by omega)
  have eg : (l.map opL).getD i [] = opL (l.getD i .zero) := by
    rw [List.getD_eq_getElem?_getD, List.getD_eq_getElem?_getD, List.getElem?_map, List.getElem?_eq_getElem hi]
    rfl
  rw [eg] at h0 hc
  exact ⟨x, e, hx, h0, hc 0 (by omega), hc 1 (by omega), hc 2 (by omega), hc 3 (by omega), hc 4 (by omega)⟩

set_option maxRecDepth 100000 in
set_option maxHeartbeats 4000000 in
theorem pwf_any (x : OpR) (w : World) : Calls Tryz.prog 69 #[.agg (opC x)] w fun e w' => e = .returned (.bool (decide (WfO x))) ∧ Below w.heap.size w w' := by
  obtain ⟨k, m, a, b, c, v⟩ := x
  have hB := Lib.hid (below_one w (.cells (opC ⟨k, m, a, b, c, v⟩) 80))
  have hE := Blk.made w 80 (opC ⟨k, m, a, b, c, v⟩)
  have c0 := hE.at_ 0
  have c1 := hE.at_ 1
  have c2 := hE.at_ 2
  have c3 := hE.at_ 3
  have c4 := hE.at_ 4
  have c5 := hE.at_ 5
  clear hE
  by_cases n1 : a < 0
  · skip
    have g0 : decide (a < (0 : Int)) = true := by simp; omega
    have hR : decide (WfO ⟨k, m, a, b, c, v⟩) = false := by
      refine decide_eq_false fun h => ?_
      obtain ⟨h1, h2, h3, h4⟩ := h
      simp only [Formed] at h1 h2 h3 h4
      omega
    rw [hR]
    clear hR
    go_enter Tryz.func69, Tryz.ntmps69
    go_wp2
    go_ret
    exact ⟨rfl, hB.out⟩
  by_cases n2 : b < a
  · skip
    have g0 : decide (a < (0 : Int)) = false := by simp; omega
    have g1 : decide (b < a) = true := by simp; omega
    have hR : decide (WfO ⟨k, m, a, b, c, v⟩) = false := by
      refine decide_eq_false fun h => ?_
      obtain ⟨h1, h2, h3, h4⟩ := h
      simp only [Formed] at h1 h2 h3 h4
      omega
    rw [hR]
    clear hR
    go_enter Tryz.func69, Tryz.ntmps69
    go_wp2
    go_ret
    exact ⟨rfl, hB.out⟩
  by_cases n3 : m < 0
  · skip
    have g0 : decide (a < (0 : Int)) = false := by simp; omega
    have g1 : decide (b < a) = false := by simp; omega
    have g2 : decide (m < (0 : Int)) = true := by simp; omega
    have hR : decide (WfO ⟨k, m, a, b, c, v⟩) = false := by
      refine decide_eq_false fun h => ?_
      obtain ⟨h1, h2, h3, h4⟩ := h
      simp only [Formed] at h1 h2 h3 h4
      omega
    rw [hR]
    clear hR
    go_enter Tryz.func69, Tryz.ntmps69
    go_wp2
    go_ret
    exact ⟨rfl, hB.out⟩
  by_cases k0 : k = 0
  · subst k0
    by_cases d0 : c = 0
    · subst d0
      have g0 : decide (a < (0 : Int)) = false := by simp; omega
      have g1 : decide (b < a) = false := by simp; omega
      have g2 : decide (m < (0 : Int)) = false := by simp; omega
      have hR : decide (WfO ⟨0, m, a, b, 0, v⟩) = true := by
        exact decide_eq_true ⟨by simp [Formed], by show 0 ≤ m; omega, by show 0 ≤ a; omega, by show a ≤ b; omega⟩
      rw [hR]
      clear hR
      go_enter Tryz.func69, Tryz.ntmps69
      go_wp2
      go_ret
      exact ⟨rfl, hB.out⟩
    by_cases d3 : c = 3
    · subst d3
      have g0 : decide (a < (0 : Int)) = false := by simp; omega
      have g1 : decide (b < a) = false := by simp; omega
      have g2 : decide (m < (0 : Int)) = false := by simp; omega
      have hR : decide (WfO ⟨0, m, a, b, 3, v⟩) = true := by
        exact decide_eq_true ⟨by simp [Formed], by show 0 ≤ m; omega, by show 0 ≤ a; omega, by show a ≤ b; omega⟩
      rw [hR]
      clear hR
      go_enter Tryz.func69, Tryz.ntmps69
      go_wp2
      go_ret
      exact ⟨rfl, hB.out⟩
    · skip
      have g0 : decide (a < (0 : Int)) = false := by simp; omega
      have g1 : decide (b < a) = false := by simp; omega
      have g2 : decide (m < (0 : Int)) = false := by simp; omega
      have g3 : (c == (0 : Int)) = false := by simp; omega
      have g4 : (c == (3 : Int)) = false := by simp; omega
      have hR : decide (WfO ⟨0, m, a, b, c, v⟩) = false := by
        refine decide_eq_false fun h => ?_
        obtain ⟨h1, h2, h3, h4⟩ := h
        simp only [Formed] at h1 h2 h3 h4
        omega
      rw [hR]
      clear hR
      go_enter Tryz.func69, Tryz.ntmps69
      go_wp2
      go_ret
      exact ⟨rfl, hB.out⟩
  by_cases k1 : k = 1
  · subst k1
    by_cases d1 : c = 1
    · subst d1
      have g0 : decide (a < (0 : Int)) = false := by simp; omega
      have g1 : decide (b < a) = false := by simp; omega
      have g2 : decide (m < (0 : Int)) = false := by simp; omega
      have hR : decide (WfO ⟨1, m, a, b, 1, v⟩) = true := by
        exact decide_eq_true ⟨by simp [Formed], by show 0 ≤ m; omega, by show 0 ≤ a; omega, by show a ≤ b; omega⟩
      rw [hR]
      clear hR
      go_enter Tryz.func69, Tryz.ntmps69
      go_wp2
      go_ret
      exact ⟨rfl, hB.out⟩
    by_cases d2 : c = 2
    · subst d2
      have g0 : decide (a < (0 : Int)) = false := by simp; omega
      have g1 : decide (b < a) = false := by simp; omega
      have g2 : decide (m < (0 : Int)) = false := by simp; omega
      have hR : decide (WfO ⟨1, m, a, b, 2, v⟩) = true := by
        exact decide_eq_true ⟨by simp [Formed], by show 0 ≤ m; omega, by show 0 ≤ a; omega, by show a ≤ b; omega⟩
      rw [hR]
      clear hR
      go_enter Tryz.func69, Tryz.ntmps69
      go_wp2
      go_ret
      exact ⟨rfl, hB.out⟩
    · skip
      have g0 : decide (a < (0 : Int)) = false := by simp; omega
      have g1 : decide (b < a) = false := by simp; omega
      have g2 : decide (m < (0 : Int)) = false := by simp; omega
      have g3 : (c == (1 : Int)) = false := by simp; omega
      have g4 : (c == (2 : Int)) = false := by simp; omega
      have hR : decide (WfO ⟨1, m, a, b, c, v⟩) = false := by
        refine decide_eq_false fun h => ?_
        obtain ⟨h1, h2, h3, h4⟩ := h
        simp only [Formed] at h1 h2 h3 h4
        omega
      rw [hR]
      clear hR
      go_enter Tryz.func69, Tryz.ntmps69
      go_wp2
      go_ret
      exact ⟨rfl, hB.out⟩
  by_cases k2 : k = 2
  · subst k2
    by_cases d1 : c = 1
    · subst d1
      have g0 : decide (a < (0 : Int)) = false := by simp; omega
      have g1 : decide (b < a) = false := by simp; omega
      have g2 : decide (m < (0 : Int)) = false := by simp; omega
      have hR : decide (WfO ⟨2, m, a, b, 1, v⟩) = true := by
        exact decide_eq_true ⟨by simp [Formed], by show 0 ≤ m; omega, by show 0 ≤ a; omega, by show a ≤ b; omega⟩
      rw [hR]
      clear hR
      go_enter Tryz.func69, Tryz.ntmps69
      go_wp2
      go_ret
      exact ⟨rfl, hB.out⟩
    by_cases d2 : c = 2
    · subst d2
      have g0 : decide (a < (0 : Int)) = false := by simp; omega
      have g1 : decide (b < a) = false := by simp; omega
      have g2 : decide (m < (0 : Int)) = false := by simp; omega
      have hR : decide (WfO ⟨2, m, a, b, 2, v⟩) = true := by
        exact decide_eq_true ⟨by simp [Formed], by show 0 ≤ m; omega, by show 0 ≤ a; omega, by show a ≤ b; omega⟩
      rw [hR]
      clear hR
      go_enter Tryz.func69, Tryz.ntmps69
      go_wp2
      go_ret
      exact ⟨rfl, hB.out⟩
    by_cases d4 : c = 4
    · subst d4
      have g0 : decide (a < (0 : Int)) = false := by simp; omega
      have g1 : decide (b < a) = false := by simp; omega
      have g2 : decide (m < (0 : Int)) = false := by simp; omega
      have hR : decide (WfO ⟨2, m, a, b, 4, v⟩) = true := by
        exact decide_eq_true ⟨by simp [Formed], by show 0 ≤ m; omega, by show 0 ≤ a; omega, by show a ≤ b; omega⟩
      rw [hR]
      clear hR
      go_enter Tryz.func69, Tryz.ntmps69
      go_wp2
      go_ret
      exact ⟨rfl, hB.out⟩
    · skip
      have g0 : decide (a < (0 : Int)) = false := by simp; omega
      have g1 : decide (b < a) = false := by simp; omega
      have g2 : decide (m < (0 : Int)) = false := by simp; omega
      have g3 : (c == (1 : Int)) = false := by simp; omega
      have g4 : (c == (2 : Int)) = false := by simp; omega
      have g5 : (c == (4 : Int)) = false := by simp; omega
      have hR : decide (WfO ⟨2, m, a, b, c, v⟩) = false := by
        refine decide_eq_false fun h => ?_
        obtain ⟨h1, h2, h3, h4⟩ := h
        simp only [Formed] at h1 h2 h3 h4
        omega
      rw [hR]
      clear hR
      go_enter Tryz.func69, Tryz.ntmps69
      go_wp2
      go_ret
      exact ⟨rfl, hB.out⟩
  · skip
    have g0 : decide (a < (0 : Int)) = false := by simp; omega
    have g1 : decide (b < a) = false := by simp; omega
    have g2 : decide (m < (0 : Int)) = false := by simp; omega
    have g3 : (k == (0 : Int)) = false := by simp; omega
    have g4 : (k == (1 : Int)) = false := by simp; omega
    have g5 : (k == (2 : Int)) = false := by simp; omega
    have hR : decide (WfO ⟨k, m, a, b, c, v⟩) = false := by
      refine decide_eq_false fun h => ?_
      obtain ⟨h1, h2, h3, h4⟩ := h
      simp only [Formed] at h1 h2 h3 h4
      omega
    rw [hR]
    clear hR
    go_enter Tryz.func69, Tryz.ntmps69
    go_wp2
    go_ret
    exact ⟨rfl, hB.out⟩
end Go.Proofs.YtjehiekmlbeaeaaGreat
