/-
  Plain mathematics: entries that were pushed, taken, claimed and left, each counted once. No function is named.
-/
import Derived.Test.YtllllbepnnpeeaaGreatClO
namespace Go.Proofs.YtllllbepnnpeeaaGreat
open Go Go.RowKit
set_option linter.unusedSimpArgs false
set_option linter.unusedVariables false

theorem getD_set_if {α : Type} (l : List α) (i j : Nat) (v d : α) : (l.set i v).getD j d = if i = j ∧ i < l.length then v else l.getD j d := by
  rw [List.getD_eq_getElem?_getD, List.getD_eq_getElem?_getD, List.getElem?_set]
  by_cases h : i = j
  · subst h
    by_cases h2 : i < l.length
    · rw [if_pos rfl, if_pos h2, if_pos ⟨rfl, h2⟩]
      rfl
    · rw [if_pos rfl, if_neg h2, if_neg (by omega), List.getElem?_eq_none (by omega)]
  · rw [if_neg h, if_neg (by omega)]
/-- L: the entries on the deque; cl: the entry that a pop has claimed; P: what was pushed; K: how often it was taken. -/
structure Cnt (N : Nat) (L : List Int) (cl : Option Int) (P : List Bool) (K : List Int) : Prop where
  lp : P.length = N
  lk : K.length = N
  nd : L.Nodup
  inL : ∀ x, x ∈ L → 0 ≤ x ∧ x.toNat < N ∧ P.getD x.toNat false = true ∧ K.getD x.toNat 0 = 0
  inC : ∀ x, cl = some x → 0 ≤ x ∧ x.toNat < N ∧ P.getD x.toNat false = true ∧ K.getD x.toNat 0 = 0 ∧ x ∉ L
  kk : ∀ i, K.getD i 0 = 0 ∨ (K.getD i 0 = 1 ∧ P.getD i false = true)
  ex : ∀ i : Nat, P.getD i false = true → K.getD i 0 = 0 → (i : Int) ∈ L ∨ cl = some (i : Int)
theorem getD_rep {α : Type} (N i : Nat) (d : α) : (List.replicate N d).getD i d = d := by
  rw [List.getD_eq_getElem?_getD, List.getElem?_replicate]
  split <;> rfl
theorem Cnt.new (N : Nat) : Cnt N [] none (List.replicate N false) (List.replicate N 0) :=
  ⟨by simp, by simp, List.nodup_nil, fun x hx => by simp at hx, fun x hx => by simp at hx, fun i => .inl (getD_rep N i 0), fun i hi => by rw [getD_rep] at hi; cases hi⟩

section
variable {N : Nat} {L : List Int} {cl : Option Int} {P : List Bool} {K : List Int}
/-- A push is over. -/
theorem Cnt.push (h : Cnt N L cl P K) (d : Nat) (hd : d < N) (hp : P.getD d false = false) : Cnt N (L ++ [(d : Int)]) cl (P.set d true) K := by
  have hset : ∀ j, (P.set d true).getD j false = if d = j then true else P.getD j false := fun j => by
    rw [getD_set_if, h.lp]
    by_cases e : d = j
    · rw [if_pos ⟨e, hd⟩, if_pos e]
    · rw [if_neg (by omega), if_neg e]
  have hk : K.getD d 0 = 0 := by
    rcases h.kk d with e | ⟨_, e⟩
    · exact e
    · rw [hp] at e; cases e
  have hmono : ∀ j, P.getD j false = true → (P.set d true).getD j false = true := fun j hj => by
    rw [hset]
    split
    · rfl
    · exact hj
  have hnew : (d : Int) ∉ L := fun hm => by
    have := (h.inL _ hm).2.2.1
    rw [Int.toNat_natCast, hp] at this
    cases this
  refine ⟨by rw [List.length_set, h.lp], h.lk, ?_, fun x hx => ?_, fun x hx => ?_, fun i => ?_, fun i hi hk0 => ?_⟩
  · rw [List.nodup_append]
    refine ⟨h.nd, by simp, fun a ha b hb => ?_⟩
    rw [List.mem_singleton] at hb
    subst hb
    exact fun e => hnew (e ▸ ha)
  · rw [List.mem_append, List.mem_singleton] at hx
    rcases hx with hx | rfl
    · obtain ⟨a, b, c, e⟩ := h.inL x hx
      exact ⟨a, b, hmono _ c, e⟩
    · rw [Int.toNat_natCast]
      exact ⟨by omega, hd, by rw [hset, if_pos rfl], hk⟩
  · obtain ⟨a, b, c, e, g⟩ := h.inC x hx
    refine ⟨a, b, hmono _ c, e, fun hm => ?_⟩
    rw [List.mem_append, List.mem_singleton] at hm
    rcases hm with hm | rfl
    · exact g hm
    · rw [Int.toNat_natCast, hp] at c
      cases c
  · rcases h.kk i with e | ⟨e, g⟩
    · exact .inl e
    · exact .inr ⟨e, hmono _ g⟩
  · by_cases e : d = i
    · subst e
      exact .inl (by simp)
    · rw [hset, if_neg e] at hi
      rcases h.ex i hi hk0 with g | g
      · exact .inl (List.mem_append_left _ g)
      · exact .inr g
theorem getD_take {x : Int} (hl : K.length = N) (hx : 0 ≤ x ∧ x.toNat < N) (j : Nat) : (K.set x.toNat 1).getD j 0 = if x = (j : Int) then 1 else K.getD j 0 := by
  rw [getD_set_if, hl]
  by_cases e : x = (j : Int)
  · rw [if_pos (by omega), if_pos e]
  · rw [if_neg (by omega), if_neg e]
/-- A thief takes the head. -/
theorem Cnt.take {x : Int} (h : Cnt N (x :: L) cl P K) : Cnt N L cl P (K.set x.toNat 1) := by
  obtain ⟨hx0, hxN, hxP, hxK⟩ := h.inL x (List.mem_cons_self ..)
  have hset := getD_take h.lk ⟨hx0, hxN⟩
  have hnd := List.nodup_cons.1 h.nd
  refine ⟨h.lp, by rw [List.length_set, h.lk], hnd.2, fun y hy => ?_, fun y hy => ?_, fun i => ?_, fun i hi hk0 => ?_⟩
  · obtain ⟨a, b, c, e⟩ := h.inL y (List.mem_cons_of_mem _ hy)
    refine ⟨a, b, c, ?_⟩
    rw [hset, if_neg (fun g => hnd.1 ?_)]
    · exact e
    · rw [show x = y by omega]
      exact hy
  · obtain ⟨a, b, c, e, g⟩ := h.inC y hy
    refine ⟨a, b, c, ?_, fun hm => g (List.mem_cons_of_mem _ hm)⟩
    rw [hset, if_neg (fun k => g ?_)]
    · exact e
    · rw [show y = x by omega]
      exact List.mem_cons_self ..
  · rw [hset]
    by_cases e : x = (i : Int)
    · rw [if_pos e]
      refine .inr ⟨rfl, ?_⟩
      rwa [e, Int.toNat_natCast] at hxP
    · rw [if_neg e]
      exact h.kk i
  · rw [hset] at hk0
    by_cases e : x = (i : Int)
    · rw [if_pos e] at hk0
      cases hk0
    · rw [if_neg e] at hk0
      rcases h.ex i hi hk0 with g | g
      · rw [List.mem_cons] at g
        rcases g with g | g
        · exact absurd g.symm e
        · exact .inl g
      · exact .inr g
/-- A pop claims an entry, at either end. -/
theorem Cnt.claim {x : Int} {L' : List Int} (h : Cnt N L none P K) (hL : L = L' ++ [x] ∨ L = x :: L') : Cnt N L' (some x) P K := by
  have hm : ∀ y, y ∈ L ↔ y = x ∨ y ∈ L' := fun y => by
    rcases hL with rfl | rfl
    · rw [List.mem_append, List.mem_singleton]
      exact Or.comm
    · exact List.mem_cons
  have hn : L'.Nodup ∧ x ∉ L' := by
    have := h.nd
    rcases hL with rfl | rfl
    · rw [List.nodup_append] at this
      exact ⟨this.1, fun hx => this.2.2 x hx x (List.mem_singleton.2 rfl) rfl⟩
    · exact ⟨(List.nodup_cons.1 this).2, (List.nodup_cons.1 this).1⟩
  refine ⟨h.lp, h.lk, hn.1, fun y hy => h.inL y ((hm y).2 (.inr hy)), fun y hy => ?_, h.kk, fun i hi hk0 => ?_⟩
  · obtain rfl : x = y := by injection hy
    obtain ⟨a, b, c, e⟩ := h.inL x ((hm x).2 (.inl rfl))
    exact ⟨a, b, c, e, hn.2⟩
  · rcases h.ex i hi hk0 with g | g
    · rcases (hm _).1 g with e | e
      · exact .inr (by rw [e])
      · exact .inl e
    · cases g
/-- .. and returns it. -/
theorem Cnt.ret {x : Int} (h : Cnt N L (some x) P K) : Cnt N L none P (K.set x.toNat 1) := by
  obtain ⟨hx0, hxN, hxP, hxK, hxL⟩ := h.inC x rfl
  have hset := getD_take h.lk ⟨hx0, hxN⟩
  refine ⟨h.lp, by rw [List.length_set, h.lk], h.nd, fun y hy => ?_, fun y hy => (by cases hy), fun i => ?_, fun i hi hk0 => ?_⟩
  · obtain ⟨a, b, c, e⟩ := h.inL y hy
    refine ⟨a, b, c, ?_⟩
    rw [hset, if_neg (fun g => hxL ?_)]
    · exact e
    · rw [show x = y by omega]
      exact hy
  · rw [hset]
    by_cases e : x = (i : Int)
    · rw [if_pos e]
      refine .inr ⟨rfl, ?_⟩
      rwa [e, Int.toNat_natCast] at hxP
    · rw [if_neg e]
      exact h.kk i
  · rw [hset] at hk0
    by_cases e : x = (i : Int)
    · rw [if_pos e] at hk0
      cases hk0
    · rw [if_neg e] at hk0
      rcases h.ex i hi hk0 with g | g
      · exact .inl g
      · injection g with g
        exact absurd g e
/-- What is left among the first k numbers. -/
def leftC (P : List Bool) (K : List Int) : Nat → Nat
  | 0 => 0
  | k + 1 => leftC P K k + if P.getD k false = true ∧ K.getD k 0 = 0 then 1 else 0
theorem leftC_take {x : Int} (hl : K.length = N) (hx : 0 ≤ x ∧ x.toNat < N) (hP : P.getD x.toNat false = true) (hK : K.getD x.toNat 0 = 0) (k : Nat) :
    leftC P (K.set x.toNat 1) k + (if x.toNat < k then 1 else 0) = leftC P K k := by
  induction k with
  | zero => rfl
  | succ k ih =>
    show leftC P (K.set x.toNat 1) k + (if P.getD k false = true ∧ (K.set x.toNat 1).getD k 0 = 0 then 1 else 0) + (if x.toNat < k + 1 then 1 else 0) = leftC P K k + (if P.getD k false = true ∧ K.getD k 0 = 0 then 1 else 0)
    rw [getD_take hl hx, ← ih]
    by_cases e : x = (k : Int)
    · have ek : x.toNat = k := by omega
      rw [ek] at hP hK
      rw [if_pos e, if_neg (show ¬(P.getD k false = true ∧ (1 : Int) = 0) by omega), if_pos (show x.toNat < k + 1 by omega), if_neg (show ¬x.toNat < k by omega), if_pos (show P.getD k false = true ∧ K.getD k 0 = 0 from ⟨hP, hK⟩)]
    · rw [if_neg e]
      by_cases c : x.toNat < k
      · rw [if_pos c, if_pos (show x.toNat < k + 1 by omega)]
        omega
      · rw [if_neg c, if_neg (show ¬x.toNat < k + 1 by omega)]
        omega
theorem Cnt.left (h : Cnt N L none P K) : leftC P K N = L.length := by
  induction L generalizing K with
  | nil =>
    have hz : ∀ k, leftC P K k = 0 := fun k => by
      induction k with
      | zero => rfl
      | succ k ih =>
        show leftC P K k + (if P.getD k false = true ∧ K.getD k 0 = 0 then 1 else 0) = 0
        rw [ih, if_neg]
        rintro ⟨a, b⟩
        rcases h.ex k a b with g | g
        · cases g
        · cases g
    exact hz N
  | cons x L ih =>
    obtain ⟨hx0, hxN, hxP, hxK⟩ := h.inL x (List.mem_cons_self ..)
    have := leftC_take h.lk ⟨hx0, hxN⟩ hxP hxK N
    rw [if_pos hxN, ih h.take] at this
    rw [← this]
    rfl
/-- Nothing was taken that was not pushed. -/
theorem Cnt.none_else (h : Cnt N L cl P K) (i : Nat) (hk : 0 < K.getD i 0) : P.getD i false = true := by
  rcases h.kk i with e | ⟨_, e⟩
  · omega
  · exact e
end
end Go.Proofs.YtllllbepnnpeeaaGreat
