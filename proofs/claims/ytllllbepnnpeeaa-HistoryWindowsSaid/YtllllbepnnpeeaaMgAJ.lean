/-
  Plain mathematics: entries that were pushed, taken, claimed and left, each counted once. No function is named.
  Plain mathematics: one owner and several thieves, each with a machine or none; what one step of one of them does to all. No function is named.
-/
import Derived.Test.YtllllbepnnpeeaaMgAI
import Derived.Test.YtllllbepnnpeeaaMgAE
namespace Go.Proofs.Ytllllbepnnpeeaa
open Go Go.RowKit
set_option linter.unusedSimpArgs false
set_option linter.unusedVariables false

theorem getD_set_if {α : Type} (l : List α) (i j : Nat) (v d : α) : (l.set i v).getD j d = if i = j ∧ i < l.length then v else l.getD j d := by
  rw [List.getD_eq_getElem?_getD, List.getD_eq_getElem?_getD, List.getElem?_set]
  by_cases h : i = j
  · subst h
    by_cases h2 : i < l.length
    · rw [if_pos rfl, if_pos h2, if_pos ⟨rfl, h2⟩]
      rfl
    · rw [if_pos rfl, if_neg h2, if_neg (by omega), List.getElem?_eq_none (by omega)]
  · rw [if_neg h, if_neg (by omega)]
/-- L: the entries on the deque; cl: the entry that a pop has claimed; P: what was pushed; K: how often it was taken. -/
structure Cnt (N : Nat) (L : List Int) (cl : Option Int) (P : List Bool) (K : List Int) : Prop where
  lp : P.length = N
  lk : K.length = N
  nd : L.Nodup
  inL : ∀ x, x ∈ L → 0 ≤ x ∧ x.toNat < N ∧ P.getD x.toNat false = true ∧ K.getD x.toNat 0 = 0
  inC : ∀ x, cl = some x → 0 ≤ x ∧ x.toNat < N ∧ P.getD x.toNat false = true ∧ K.getD x.toNat 0 = 0 ∧ x ∉ L
  kk : ∀ i, K.getD i 0 = 0 ∨ (K.getD i 0 = 1 ∧ P.getD i false = true)
  ex : ∀ i : Nat, P.getD i false = true → K.getD i 0 = 0 → (i : Int) ∈ L ∨ cl = some (i : Int)
theorem getD_rep {α : Type} (N i : Nat) (d : α) : (List.replicate N d).getD i d = d := by
  rw [List.getD_eq_getElem?_getD, List.getElem?_replicate]
  split <;> rfl
theorem Cnt.new (N : Nat) : Cnt N [] none (List.replicate N false) (List.replicate N 0) :=
  ⟨by simp, by simp, List.nodup_nil, fun x hx => by simp at hx, fun x hx => by simp at hx, fun i => .inl (getD_rep N i 0), fun i hi => by rw [getD_rep] at hi; cases hi⟩

section
variable {N : Nat} {L : List Int} {cl : Option Int} {P : List Bool} {K : List Int}
/-- A push is over. -/
theorem Cnt.push (h : Cnt N L cl P K) (d : Nat) (hd : d < N) (hp : P.getD d false = false) : Cnt N (L ++ [(d : Int)]) cl (P.set d true) K := by
  have hset : ∀ j, (P.set d true).getD j false = if d = j then true else P.getD j false := fun j => by
    rw [getD_set_if, h.lp]
    by_cases e : d = j
    · rw [if_pos ⟨e, hd⟩, if_pos e]
    · rw [if_neg (by omega), if_neg e]
  have hk : K.getD d 0 = 0 := by
    rcases h.kk d with e | ⟨_, e⟩
    · exact e
    · rw [hp] at e; cases e
  have hmono : ∀ j, P.getD j false = true → (P.set d true).getD j false = true := fun j hj => by
    rw [hset]
    split
    · rfl
    · exact hj
  have hnew : (d : Int) ∉ L := fun hm => by
    have := (h.inL _ hm).2.2.1
    rw [Int.toNat_natCast, hp] at this
    cases this
  refine ⟨by rw [List.length_set, h.lp], h.lk, ?_, fun x hx => ?_, fun x hx => ?_, fun i => ?_, fun i hi hk0 => ?_⟩
  · rw [List.nodup_append]
    refine ⟨h.nd, by simp, fun a ha b hb => ?_⟩
    rw [List.mem_singleton] at hb
    subst hb
    exact fun e => hnew (e ▸ ha)
  · rw [List.mem_append, List.mem_singleton] at hx
    rcases hx with hx | rfl
    · obtain ⟨a, b, c, e⟩ := h.inL x hx
      exact ⟨a, b, hmono _ c, e⟩
    · rw [Int.toNat_natCast]
      exact ⟨by omega, hd, by rw [hset, if_pos rfl], hk⟩
  · obtain ⟨a, b, c, e, g⟩ := h.inC x hx
    refine ⟨a, b, hmono _ c, e, fun hm => ?_⟩
    rw [List.mem_append, List.mem_singleton] at hm
    rcases hm with hm | rfl
    · exact g hm
    · rw [Int.toNat_natCast, hp] at c
      cases c
  · rcases h.kk i with e | ⟨e, g⟩
    · exact .inl e
    · exact .inr ⟨e, hmono _ g⟩
  · by_cases e : d = i
    · subst e
      exact .inl (by simp)
    · rw [hset, if_neg e] at hi
      rcases h.ex i hi hk0 with g | g
      · exact .inl (List.mem_append_left _ g)
      · exact .inr g
theorem getD_take {x : Int} (hl : K.length = N) (hx : 0 ≤ x ∧ x.toNat < N) (j : Nat) : (K.set x.toNat 1).getD j 0 = if x = (j : Int) then 1 else K.getD j 0 := by
  rw [getD_set_if, hl]
  by_cases e : x = (j : Int)
  · rw [if_pos (by omega), if_pos e]
  · rw [if_neg (by omega), if_neg e]
/-- A thief takes the head. -/
theorem Cnt.take {x : Int} (h : Cnt N (x :: L) cl P K) : Cnt N L cl P (K.set x.toNat 1) := by
  obtain ⟨hx0, hxN, hxP, hxK⟩ := h.inL x (List.mem_cons_self ..)
  have hset := getD_take h.lk ⟨hx0, hxN⟩
  have hnd := List.nodup_cons.1 h.nd
  refine ⟨h.lp, by rw [List.length_set, h.lk], hnd.2, fun y hy => ?_, fun y hy => ?_, fun i => ?_, fun i hi hk0 => ?_⟩
  · obtain ⟨a, b, c, e⟩ := h.inL y (List.mem_cons_of_mem _ hy)
    refine ⟨a, b, c, ?_⟩
    rw [hset, if_neg (fun g => hnd.1 ?_)]
    · exact e
    · rw [show x = y by omega]
      exact hy
  · obtain ⟨a, b, c, e, g⟩ := h.inC y hy
    refine ⟨a, b, c, ?_, fun hm => g (List.mem_cons_of_mem _ hm)⟩
    rw [hset, if_neg (fun k => g ?_)]
    · exact e
    · rw [show y = x by omega]
      exact List.mem_cons_self ..
  · rw [hset]
    by_cases e : x = (i : Int)
    · rw [if_pos e]
      refine .inr ⟨rfl, ?_⟩
      rwa [e, Int.toNat_natCast] at hxP
    · rw [if_neg e]
      exact h.kk i
  · rw [hset] at hk0
    by_cases e : x = (i : Int)
    · rw [if_pos e] at hk0
      cases hk0
    · rw [if_neg e] at hk0
      rcases h.ex i hi hk0 with g | g
      · rw [List.mem_cons] at g
        rcases g with g | g
        · exact absurd g.symm e
        · exact .inl g
      · exact .inr g
/-- A pop claims an entry, at either end. -/
theorem Cnt.claim {x : Int} {L' : List Int} (h : Cnt N L none P K) (hL : L = L' ++ [x] ∨ L = x :: L') : Cnt N L' (some x) P K := by
  have hm : ∀ y, y ∈ L ↔ y = x ∨ y ∈ L' := fun y => by
    rcases hL with rfl | rfl
    · rw [List.mem_append, List.mem_singleton]
      exact Or.comm
    · exact List.mem_cons
  have hn : L'.Nodup ∧ x ∉ L' := by
    have := h.nd
    rcases hL with rfl | rfl
    · rw [List.nodup_append] at this
      exact ⟨this.1, fun hx => this.2.2 x hx x (List.mem_singleton.2 rfl) rfl⟩
    · exact ⟨(List.nodup_cons.1 this).2, (List.nodup_cons.1 this).1⟩
  refine ⟨h.lp, h.lk, hn.1, fun y hy => h.inL y ((hm y).2 (.inr hy)), fun y hy => ?_, h.kk, fun i hi hk0 => ?_⟩
  · obtain rfl : x = y := by injection hy
    obtain ⟨a, b, c, e⟩ := h.inL x ((hm x).2 (.inl rfl))
    exact ⟨a, b, c, e, hn.2⟩
  · rcases h.ex i hi hk0 with g | g
    · rcases (hm _).1 g with e | e
      · exact .inr (by rw [e])
      · exact .inl e
    · cases g
/-- .. and returns it. -/
theorem Cnt.ret {x : Int} (h : Cnt N L (some x) P K) : Cnt N L none P (K.set x.toNat 1) := by
  obtain ⟨hx0, hxN, hxP, hxK, hxL⟩ := h.inC x rfl
  have hset := getD_take h.lk ⟨hx0, hxN⟩
  refine ⟨h.lp, by rw [List.length_set, h.lk], h.nd, fun y hy => ?_, fun y hy => (by cases hy), fun i => ?_, fun i hi hk0 => ?_⟩
  · obtain ⟨a, b, c, e⟩ := h.inL y hy
    refine ⟨a, b, c, ?_⟩
    rw [hset, if_neg (fun g => hxL ?_)]
    · exact e
    · rw [show x = y by omega]
      exact hy
  · rw [hset]
    by_cases e : x = (i : Int)
    · rw [if_pos e]
      refine .inr ⟨rfl, ?_⟩
      rwa [e, Int.toNat_natCast] at hxP
    · rw [if_neg e]
      exact h.kk i
  · rw [hset] at hk0
    by_cases e : x = (i : Int)
    · rw [if_pos e] at hk0
      cases hk0
    · rw [if_neg e] at hk0
      rcases h.ex i hi hk0 with g | g
      · exact .inl g
      · injection g with g
        exact absurd g e
/-- What is left among the first k numbers. -/
def leftC (P : List Bool) (K : List Int) : Nat → Nat
  | 0 => 0
  | k + 1 => leftC P K k + if P.getD k false = true ∧ K.getD k 0 = 0 then 1 else 0
theorem leftC_take {x : Int} (hl : K.length = N) (hx : 0 ≤ x ∧ x.toNat < N) (hP : P.getD x.toNat false = true) (hK : K.getD x.toNat 0 = 0) (k : Nat) :
    leftC P (K.set x.toNat 1) k + (if x.toNat < k then 1 else 0) = leftC P K k := by
  induction k with
  | zero => rfl
  | succ k ih =>
    show leftC P (K.set x.toNat 1) k + (if P.getD k false = true ∧ (K.set x.toNat 1).getD k 0 = 0 then 1 else 0) + (if x.toNat < k + 1 then 1 else 0) = leftC P K k + (if P.getD k false = true ∧ K.getD k 0 = 0 then 1 else 0)
    rw [getD_take hl hx, ← ih]
    by_cases e : x = (k : Int)
    · have ek : x.toNat = k := by omega
      rw [ek] at hP hK
      rw [if_pos e, if_neg (show ¬(P.getD k false = true ∧ (1 : Int) = 0) by omega), if_pos (show x.toNat < k + 1 by omega), if_neg (show ¬x.toNat < k by omega), if_pos (show P.getD k false = true ∧ K.getD k 0 = 0 from ⟨hP, hK⟩)]
    · rw [if_neg e]
      by_cases c : x.toNat < k
      · rw [if_pos c, if_pos (show x.toNat < k + 1 by omega)]
        omega
      · rw [if_neg c, if_neg (show ¬x.toNat < k + 1 by omega)]
        omega
theorem Cnt.left (h : Cnt N L none P K) : leftC P K N = L.length := by
  induction L generalizing K with
  | nil =>
    have hz : ∀ k, leftC P K k = 0 := fun k => by
      induction k with
      | zero => rfl
      | succ k ih =>
        show leftC P K k + (if P.getD k false = true ∧ K.getD k 0 = 0 then 1 else 0) = 0
        rw [ih, if_neg]
        rintro ⟨a, b⟩
        rcases h.ex k a b with g | g
        · cases g
        · cases g
    exact hz N
  | cons x L ih =>
    obtain ⟨hx0, hxN, hxP, hxK⟩ := h.inL x (List.mem_cons_self ..)
    have := leftC_take h.lk ⟨hx0, hxN⟩ hxP hxK N
    rw [if_pos hxN, ih h.take] at this
    rw [← this]
    rfl
/-- Nothing was taken that was not pushed. -/
theorem Cnt.none_else (h : Cnt N L cl P K) (i : Nat) (hk : 0 < K.getD i 0) : P.getD i false = true := by
  rcases h.kk i with e | ⟨_, e⟩
  · omega
  · exact e
end
end Go.Proofs.Ytllllbepnnpeeaa

namespace Go.Proofs.Ytllllbepnnpeeaa
open Go Go.RowKit
set_option linter.unusedSimpArgs false
set_option linter.unusedVariables false

inductive Mach where
  | no
  | push (f : Fra)
  | pop (f : Fra)
  | steal (f : Fra)
def Mach.own : Mach → Own
  | .push f => .push f
  | .pop f => .pop f
  | _ => .rest
def Mach.pend : Mach → Nat
  | .push _ => 1
  | _ => 0
def stepM (s : St) : Mach → St × Mach × Res
  | .no => (s, .no, ⟨true, 0, 0⟩)
  | .push f => ((pushS s f).1, .push (pushS s f).2.1, (pushS s f).2.2)
  | .pop f => ((popS s f).1, .pop (popS s f).2.1, (popS s f).2.2)
  | .steal f => ((stealS s f).1, .steal (stealS s f).2.1, (stealS s f).2.2)
/-- All of it: n is Cap, t0 the first index, N how many numbers there are, B above all that were pushed. -/
structure Inv (N n t0 B : Nat) (s : St) (T : Nat) (L : List Int) (cl : Option Int) (M : List Mach) (P : List Bool) (K : List Int) : Prop where
  cs : CL s n t0 T L
  ow : OW s n T L cl (M.getD 0 .no).own
  o0 : ∀ f, M.getD 0 .no ≠ .steal f
  th : ∀ a, 0 < a → M.getD a .no = .no ∨ ∃ f, M.getD a .no = .steal f ∧ TH n t0 T L f
  ct : Cnt N L cl P K
  fa : ∀ f, M.getD 0 .no = .push f → ∃ d : Nat, f.fa = d ∧ d < B ∧ P.getD d false = false
  pb : ∀ j, B ≤ j → P.getD j false = false
  bN : B ≤ N ∧ N ≤ 200000
  li : T + L.length + (M.getD 0 .no).pend ≤ t0 + B

section
variable {N n t0 B : Nat} {s : St} {T : Nat} {L : List Int} {cl : Option Int} {M : List Mach} {P : List Bool} {K : List Int}
theorem set_at {α : Type} (l : List α) (a : Nat) (v d : α) (h : a < l.length) : (l.set a v).getD a d = v := by
  rw [getD_set_if, if_pos ⟨rfl, h⟩]
theorem set_off {α : Type} (l : List α) (a j : Nat) (v d : α) (h : a ≠ j) : (l.set a v).getD j d = l.getD j d := by
  rw [getD_set_if, if_neg (by omega)]
/-- The owner begins a push of the number i. -/
theorem Inv.push (h : Inv N n t0 B s T L cl M P K) (hm : 0 < M.length) (h0 : M.getD 0 .no = .no) (f : Fra) (i : Nat) (hi : B ≤ i) (hN : i < N) (hq : f.qt = 0 ∧ f.qb = 1 ∧ f.qr = 2 ∧ f.qc = n) (hl : f.ln = 1) (hf : f.fa = i) :
    Inv N n t0 (i + 1) s T L cl (M.set 0 (.push f)) P K := by
  have ho := h.ow
  rw [h0] at ho
  have hli := h.li
  refine ⟨h.cs, ?_, fun g => ?_, fun a ha => ?_, h.ct, fun g hg => ?_, fun j hj => h.pb j (by omega), ⟨by omega, h.bN.2⟩, ?_⟩
  · rw [set_at _ _ _ _ hm]
    exact ⟨⟨hq.1, hq.2.1, hq.2.2.1, hq.2.2.2, ho.1, .inl hl⟩, ho.2⟩
  · rw [set_at _ _ _ _ hm]
    exact fun e => by cases e
  · rw [set_off _ _ _ _ _ (by omega)]
    exact h.th a ha
  · rw [set_at _ _ _ _ hm] at hg
    injection hg with hg
    subst hg
    exact ⟨i, hf, by omega, h.pb i hi⟩
  · rw [set_at _ _ _ _ hm]
    show T + L.length + 1 ≤ _
    omega
/-- .. a pop. -/
theorem Inv.pop (h : Inv N n t0 B s T L cl M P K) (hm : 0 < M.length) (h0 : M.getD 0 .no = .no) (f : Fra) (hq : f.qt = 0 ∧ f.qb = 1 ∧ f.qr = 2 ∧ f.qc = n) (hl : f.ln = 1) :
    Inv N n t0 B s T L cl (M.set 0 (.pop f)) P K := by
  have ho := h.ow
  rw [h0] at ho
  have hli := h.li
  refine ⟨h.cs, ?_, fun g => ?_, fun a ha => ?_, h.ct, fun g hg => ?_, h.pb, h.bN, ?_⟩
  · rw [set_at _ _ _ _ hm]
    exact ⟨hq.1, hq.2.1, hq.2.2.1, hq.2.2.2, .inl ⟨hl, ho.1, ho.2⟩⟩
  · rw [set_at _ _ _ _ hm]
    exact fun e => by cases e
  · rw [set_off _ _ _ _ _ (by omega)]
    exact h.th a ha
  · rw [set_at _ _ _ _ hm] at hg
    cases hg
  · rw [set_at _ _ _ _ hm]
    show T + L.length + 0 ≤ _
    omega
/-- A thief begins a steal. -/
theorem Inv.steal (h : Inv N n t0 B s T L cl M P K) (a : Nat) (hm : a < M.length) (ha : 0 < a) (f : Fra) (hq : f.qt = 0 ∧ f.qb = 1 ∧ f.qr = 2 ∧ f.qc = n) (hl : f.ln = 1) :
    Inv N n t0 B s T L cl (M.set a (.steal f)) P K := by
  have e0 : (M.set a (.steal f)).getD 0 .no = M.getD 0 .no := set_off _ _ _ _ _ (by omega)
  refine ⟨h.cs, by rw [e0]; exact h.ow, by rw [e0]; exact h.o0, fun b hb => ?_, h.ct, by rw [e0]; exact h.fa, h.pb, h.bN, by rw [e0]; exact h.li⟩
  by_cases e : a = b
  · subst e
    rw [set_at _ _ _ _ hm]
    exact .inr ⟨f, rfl, hq.1, hq.2.1, hq.2.2.1, hq.2.2.2, .inl hl⟩
  · rw [set_off _ _ _ _ _ e]
    exact h.th b hb

/-- A step of the owner's push. -/
theorem Inv.push_step (h : Inv N n t0 B s T L cl M P K) (hm : 0 < M.length) {f : Fra} (h0 : M.getD 0 .no = .push f) : ∃ L', 
    ((pushS s f).2.2.dn = false → Inv N n t0 B (pushS s f).1 T L' cl (M.set 0 (.push (pushS s f).2.1)) P K) ∧
    ((pushS s f).2.2.dn = true → ((pushS s f).2.2.cd = 0 ∧ ∃ d : Nat, f.fa = d ∧ d < N ∧ Inv N n t0 B (pushS s f).1 T L' cl (M.set 0 .no) (P.set d true) K) ∨
      ((pushS s f).2.2.cd ≠ 0 ∧ (pushS s f).2.2.cd ≠ 1 ∧ Inv N n t0 B (pushS s f).1 T L' cl (M.set 0 .no) P K)) := by
  have ho := h.ow
  have hli := h.li
  rw [h0] at ho hli
  obtain ⟨hw, hcl⟩ := ho
  have hbN := h.bN
  obtain ⟨d, hd, hdB, hdP⟩ := h.fa f h0
  replace hli : T + L.length + 1 ≤ t0 + B := hli
  obtain ⟨L', k1, k2, k3, k4⟩ := Go.Proofs.Ytllllbepnnpeeaa.push_step h.cs hw (by omega)
  have hth : ∀ m, ∀ a, 0 < a → (M.set 0 m).getD a .no = .no ∨ ∃ g, (M.set 0 m).getD a .no = .steal g ∧ TH n t0 T L' g := fun m a ha => by
    rw [set_off _ _ _ _ _ (by omega)]
    rcases h.th a ha with e | ⟨g, e, kg⟩
    · exact .inl e
    · exact .inr ⟨g, e, k2 g kg⟩
  refine ⟨L', fun hdn => ?_, fun hdn => ?_⟩
  · obtain ⟨e1, e2⟩ := k3 hdn
    subst e2
    refine ⟨k1, ?_, fun g => ?_, hth _, h.ct, fun g hg => ?_, h.pb, h.bN, ?_⟩
    · rw [set_at _ _ _ _ hm]
      exact ⟨e1, hcl⟩
    · rw [set_at _ _ _ _ hm]
      exact fun e => by cases e
    · rw [set_at _ _ _ _ hm] at hg
      injection hg with hg
      subst hg
      exact ⟨d, by rw [(push_keeps.q s f).1]; exact hd, hdB, hdP⟩
    · rw [set_at _ _ _ _ hm]
      show T + L'.length + 1 ≤ _
      omega
  · obtain ⟨e1, e2⟩ := k4 hdn
    rcases e2 with ⟨c0, e2⟩ | ⟨c0, c1, e2⟩
    · have hwr : IntKind.u64.wrap f.fa = (d : Int) := by
        rw [hd]
        exact IntWalk.u64_in _ (by omega)
      rw [hwr] at e2
      have hlen : L'.length = L.length + 1 := by rw [e2]; simp
      refine .inl ⟨c0, d, hd, by omega, k1, ?_, fun g => ?_, hth _, ?_, fun g hg => ?_, fun j hj => ?_, h.bN, ?_⟩
      · rw [set_at _ _ _ _ hm]
        exact ⟨e1, hcl⟩
      · rw [set_at _ _ _ _ hm]
        exact fun e => by cases e
      · rw [e2]
        exact h.ct.push d (by omega) hdP
      · rw [set_at _ _ _ _ hm] at hg
        cases hg
      · rw [set_off _ _ _ _ _ (by omega)]
        exact h.pb j hj
      · rw [set_at _ _ _ _ hm]
        show T + L'.length + 0 ≤ _
        omega
    · subst e2
      refine .inr ⟨c0, c1, k1, ?_, fun g => ?_, hth _, h.ct, fun g hg => ?_, h.pb, h.bN, ?_⟩
      · rw [set_at _ _ _ _ hm]
        exact ⟨e1, hcl⟩
      · rw [set_at _ _ _ _ hm]
        exact fun e => by cases e
      · rw [set_at _ _ _ _ hm] at hg
        cases hg
      · rw [set_at _ _ _ _ hm]
        show T + L'.length + 0 ≤ _
        omega

/-- A step of the owner's pop. -/
theorem Inv.pop_step (h : Inv N n t0 B s T L cl M P K) (hm : 0 < M.length) {f : Fra} (h0 : M.getD 0 .no = .pop f) : ∃ T' L' cl',
    ((popS s f).2.2.dn = false → Inv N n t0 B (popS s f).1 T' L' cl' (M.set 0 (.pop (popS s f).2.1)) P K) ∧
    ((popS s f).2.2.dn = true → ((popS s f).2.2.cd = 1 ∧ ∃ d : Nat, (popS s f).2.2.vl = d ∧ d < N ∧ K.getD d 0 = 0 ∧ Inv N n t0 B (popS s f).1 T' L' none (M.set 0 .no) P (K.set d 1)) ∨
      ((popS s f).2.2.cd ≠ 0 ∧ (popS s f).2.2.cd ≠ 1 ∧ Inv N n t0 B (popS s f).1 T' L' none (M.set 0 .no) P K)) := by
  have hw := h.ow
  have hli := h.li
  rw [h0] at hw hli
  replace hli : T + L.length + 0 ≤ t0 + B := hli
  replace hw : PoW s n T L f cl := hw
  have hbN := h.bN
  obtain ⟨T', L', cl', k0, k1, k2, k3, k4⟩ := Go.Proofs.Ytllllbepnnpeeaa.pop_step h.cs hw
  have hth : ∀ m, ∀ a, 0 < a → (M.set 0 m).getD a .no = .no ∨ ∃ g, (M.set 0 m).getD a .no = .steal g ∧ TH n t0 T' L' g := fun m a ha => by
    rw [set_off _ _ _ _ _ (by omega)]
    rcases h.th a ha with e | ⟨g, e, kg⟩
    · exact .inl e
    · exact .inr ⟨g, e, k2 g kg⟩
  refine ⟨T', L', cl', fun hdn => ?_, fun hdn => ?_⟩
  · obtain ⟨e1, e2⟩ := k3 hdn
    refine ⟨k1, ?_, fun g => ?_, hth _, ?_, fun g hg => ?_, h.pb, h.bN, ?_⟩
    · rw [set_at _ _ _ _ hm]
      exact e1
    · rw [set_at _ _ _ _ hm]
      exact fun e => by cases e
    · rcases e2 with ⟨rfl, rfl⟩ | ⟨rfl, x, rfl, e2⟩
      · exact h.ct
      · exact h.ct.claim e2
    · rw [set_at _ _ _ _ hm] at hg
      cases hg
    · rw [set_at _ _ _ _ hm]
      show T' + L'.length + 0 ≤ _
      omega
  · obtain ⟨e1, e2, e3⟩ := k4 hdn
    subst e2
    have hlast : ∀ P' K', Cnt N L' none P' K' → (∀ j, B ≤ j → P'.getD j false = false) → Inv N n t0 B (popS s f).1 T' L' none (M.set 0 .no) P' K' := fun P' K' hc hp => by
      refine ⟨k1, ?_, fun g => ?_, hth _, hc, fun g hg => ?_, hp, h.bN, ?_⟩
      · rw [set_at _ _ _ _ hm]
        exact ⟨e1, rfl⟩
      · rw [set_at _ _ _ _ hm]
        exact fun e => by cases e
      · rw [set_at _ _ _ _ hm] at hg
        cases hg
      · rw [set_at _ _ _ _ hm]
        show T' + L'.length + 0 ≤ _
        omega
    rcases e3 with ⟨c1, x, ex, ev⟩ | ⟨c0, c1, ec, _⟩
    · subst ex
      obtain ⟨hx0, hxN, hxP, hxK, _⟩ := h.ct.inC x rfl
      refine .inl ⟨c1, x.toNat, ?_, hxN, hxK, hlast _ _ h.ct.ret h.pb⟩
      rw [ev, IntKind.wrap_i64]
      omega
    · subst ec
      exact .inr ⟨c0, c1, hlast _ _ h.ct h.pb⟩

/-- A step of a thief's steal. -/
theorem Inv.steal_step (h : Inv N n t0 B s T L cl M P K) {a : Nat} (hm : a < M.length) (ha : 0 < a) {f : Fra} (h0 : M.getD a .no = .steal f) : ∃ T' L',
    ((stealS s f).2.2.dn = false → Inv N n t0 B (stealS s f).1 T' L' cl (M.set a (.steal (stealS s f).2.1)) P K) ∧
    ((stealS s f).2.2.dn = true → ((stealS s f).2.2.cd = 1 ∧ ∃ d : Nat, (stealS s f).2.2.vl = d ∧ d < N ∧ K.getD d 0 = 0 ∧ Inv N n t0 B (stealS s f).1 T' L' cl (M.set a .no) P (K.set d 1)) ∨
      ((stealS s f).2.2.cd ≠ 1 ∧ Inv N n t0 B (stealS s f).1 T' L' cl (M.set a .no) P K)) := by
  have hbN := h.bN
  have hli := h.li
  have hf : TH n t0 T L f := by
    rcases h.th a ha with e | ⟨g, e, kg⟩
    · rw [h0] at e
      cases e
    · rw [h0] at e
      injection e with e
      rw [e]
      exact kg
  obtain ⟨T', L', k0, k1, k2, k3, k4, k5⟩ := thief_step h.cs h.ow hf
  have hall : ∀ m P' K', (m = .no ∨ ∃ g, m = .steal g ∧ TH n t0 T' L' g) → Cnt N L' cl P' K' → P' = P → Inv N n t0 B (stealS s f).1 T' L' cl (M.set a m) P' K' := fun m P' K' hmm hc hp => by
    subst hp
    have e0 : (M.set a m).getD 0 .no = M.getD 0 .no := set_off _ _ _ _ _ (by omega)
    refine ⟨k1, by rw [e0]; exact k2, by rw [e0]; exact h.o0, fun b hb => ?_, hc, by rw [e0]; exact h.fa, h.pb, h.bN, by rw [e0]; omega⟩
    by_cases e : a = b
    · subst e
      rw [set_at _ _ _ _ hm]
      exact hmm
    · rw [set_off _ _ _ _ _ e]
      rcases h.th b hb with e | ⟨g, e, kg⟩
      · exact .inl e
      · exact .inr ⟨g, e, k3 g kg⟩
  refine ⟨T', L', fun hdn => ?_, fun hdn => ?_⟩
  · obtain ⟨e1, e2⟩ := k4 hdn
    exact hall _ _ _ (.inr ⟨_, rfl, e1⟩) (by rw [e2]; exact h.ct) rfl
  · rcases k5 hdn with ⟨c1, x, ex, ev⟩ | ⟨c1, e2⟩
    · subst ex
      obtain ⟨hx0, hxN, hxP, hxK⟩ := h.ct.inL x (List.mem_cons_self ..)
      refine .inl ⟨c1, x.toNat, ?_, hxN, hxK, hall _ _ _ (.inl rfl) h.ct.take rfl⟩
      rw [ev]
      unfold wrap64
      omega
    · exact .inr ⟨c1, hall _ _ _ (.inl rfl) (by rw [e2]; exact h.ct) rfl⟩

/-- When nobody has a machine, what lies between Top and Bottom is what was pushed and not taken. -/
theorem Inv.last (h : Inv N n t0 B s T L cl M P K) (h0 : M.getD 0 .no = .no) : sizeI (s.old 1) (s.old 0) = (leftC P K N : Int) := by
  have ho := h.ow
  rw [h0] at ho
  have hbN := h.bN
  have hli := h.li
  have hlim := h.cs.lim
  have hct := h.ct
  rw [ho.2] at hct
  rw [ho.1, h.cs.top, size_int (by omega) (by omega) (by omega), hct.left]
  omega
/-- In the beginning. -/
theorem Inv.begin (hs : CL s n t0 t0 []) (hb : s.old 1 = (t0 : Int)) (hN : N ≤ 200000) (k : Nat) : Inv N n t0 0 s t0 [] none (List.replicate k .no) (List.replicate N false) (List.replicate N 0) := by
  refine ⟨hs, ?_, fun f => ?_, fun a ha => .inl (getD_rep ..), Cnt.new N, fun f hf => ?_, fun j _ => getD_rep .., ⟨by omega, hN⟩, ?_⟩
  · rw [getD_rep]
    exact ⟨by rw [hb]; simp, rfl⟩
  · rw [getD_rep]
    exact fun e => by cases e
  · rw [getD_rep] at hf
    cases hf
  · rw [getD_rep]
    show t0 + 0 + 0 ≤ _
    omega
end

/-- How far a machine has come: its line; each step goes on, and none is left behind line 9. -/
def Mach.line : Mach → Int
  | .no => 10
  | .push f => f.ln
  | .pop f => f.ln
  | .steal f => f.ln
theorem push_line {s : St} {f : Fra} (h : 1 ≤ f.ln) (hd : (pushS s f).2.2.dn = false) : f.ln + 1 ≤ (pushS s f).2.1.ln := by
  revert hd
  unfold pushS
  split
  · intro _; show f.ln + 1 ≤ 2; omega
  split
  · split
    · intro hd; exact absurd hd (by simp)
    · intro _; show f.ln + 1 ≤ 3; omega
  split
  · intro _; show f.ln + 1 ≤ 4; omega
  · intro hd; exact absurd hd (by simp)
theorem steal_line {s : St} {f : Fra} (h : 1 ≤ f.ln) (hd : (stealS s f).2.2.dn = false) : f.ln + 1 ≤ (stealS s f).2.1.ln := by
  revert hd
  unfold stealS
  split
  · intro _; show f.ln + 1 ≤ 2; omega
  split
  · split
    · intro hd; exact absurd hd (by simp)
    · intro _; show f.ln + 1 ≤ 3; omega
  split
  · intro _; show f.ln + 1 ≤ 4; omega
  · intro hd
    exfalso
    revert hd
    show ¬((if s.hit f.qt f.fv then (⟨true, 1, wrap64 f.fw⟩ : Res) else ⟨true, 4, 0⟩).dn = false)
    split <;> simp
theorem pop_line {s : St} {f : Fra} (h : 1 ≤ f.ln) (hd : (popS s f).2.2.dn = false) : f.ln + 1 ≤ (popS s f).2.1.ln := by
  revert hd
  unfold popS
  split
  · intro _; show f.ln + 1 ≤ 2; omega
  split
  · split
    · intro hd; exact absurd hd (by simp)
    · intro _; show f.ln + 1 ≤ 3; omega
  split
  · intro _; show f.ln + 1 ≤ 4; omega
  split
  · intro _
    show f.ln + 1 ≤ pop4 _
    unfold pop4
    split
    · omega
    split <;> omega
  split
  · intro hd; exact absurd hd (by simp)
  split
  · intro _
    show f.ln + 1 ≤ (if s.hit f.qt f.fv then 7 else 9)
    split <;> omega
  split
  · intro _; show f.ln + 1 ≤ 8; omega
  · intro hd; exact absurd hd (by simp)
end Go.Proofs.Ytllllbepnnpeeaa
