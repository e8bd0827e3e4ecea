/-
  Stage 11, plain mathematics: the numbers of what is done are within the bounds of an int. No function is named.
  The machines of owners and thieves as values of the interface, and what holds them.
  Slices whose elements are rows of k cells: what came in, what is the call's own, appends. No function and no type is named.
  Stage 11: operations as rows; which are well-formed. (Written by wip/gen_lin.py.)
-/
import Derived.Test.YtllllbepnnpeeaaPlyB
import Derived.Test.YtllllbepnnpeeaaMgBD
import Derived.Test.YtllllbepnnpeeaaMgAW
import Derived.Test.YtllllbepnnpeeaaMgAV
import Derived.Test.YtllllbepnnpeeaaMgAJ
import Derived.Test.YtllllbepnnpeeaaMgAX
import Derived.Test.YtllllbepnnpeeaaMgAB
import Derived.LoopTactic
namespace Go.Proofs.Ytllllbepnnpeeaa
open Go Go.RowKit
set_option linter.unusedSimpArgs false
set_option linter.unusedVariables false

abbrev In64 (x : Int) : Prop := -9223372036854775808 ≤ x ∧ x ≤ 9223372036854775807
theorem in64_0 : In64 0 := by unfold In64; omega
theorem in64_wrap (x : Int) : In64 (wrap64 x) := by unfold In64 wrap64; omega
theorem stepM_in (s : St) (m : Mach) : In64 (stepM s m).2.2.vl := by
  cases m with
  | no => exact in64_0
  | push f =>
    show In64 (pushS s f).2.2.vl
    unfold pushS
    split
    · exact in64_0
    split
    · split <;> exact in64_0
    split <;> exact in64_0
  | pop f =>
    show In64 (popS s f).2.2.vl
    unfold popS
    split
    · exact in64_0
    split
    · split <;> exact in64_0
    split
    · exact in64_0
    split
    · exact in64_0
    split
    · show In64 (IntKind.i64.wrap _)
      rw [wrapI]
      exact in64_wrap _
    split
    · exact in64_0
    split <;> exact in64_0
  | steal f =>
    show In64 (stealS s f).2.2.vl
    unfold stealS
    split
    · exact in64_0
    split
    · split <;> exact in64_0
    split
    · exact in64_0
    · show In64 (if s.hit f.qt f.fv then (⟨true, 1, wrap64 f.fw⟩ : Res) else ⟨true, 4, 0⟩).vl
      split
      · exact in64_wrap _
      · exact in64_0
def FitO (now : Nat) (o : OpR) : Prop := In64 o.v ∧ o.a ≤ now
structure FitS (S : PlS) : Prop where
  out : ∀ o, o ∈ S.out → FitO S.now o
  sn : ∀ j, (S.P.getD j .no).x.sn ≤ S.now
theorem FitO.mono {now : Nat} {o : OpR} (h : FitO now o) : FitO (now + 1) o := ⟨h.1, by have := h.2; omega⟩
theorem set_sn {P : List Plr} {n : Nat} (h : ∀ j, (P.getD j .no).x.sn ≤ (n : Int)) (i : Nat) {p : Plr} (hp : p.x.sn ≤ (n : Int)) : ∀ j, ((P.set i p).getD j .no).x.sn ≤ ((n + 1 : Nat) : Int) := by
  intro j
  by_cases e : i = j
  · subst e
    by_cases hi : i < P.length
    · rw [List.getD_eq_getElem?_getD, List.getElem?_set_self hi]
      show p.x.sn ≤ _
      omega
    · have := h i
      rw [List.getD_eq_getElem?_getD, List.getElem?_eq_none (by rw [List.length_set]; omega)]
      show (0 : Int) ≤ _
      omega
  · have := h j
    rw [List.getD_eq_getElem?_getD, List.getElem?_set_ne e, ← List.getD_eq_getElem?_getD]
    omega
theorem begP_sn (C : Int) (now : Nat) (p : Plr) (h : p.x.sn ≤ now) : (begP C now p).x.sn ≤ now := by
  unfold begP
  split
  · split
    · exact h
    · exact Int.le_refl _
  · exact h
theorem pick_fit {C : Int} {i : Nat} {S : PlS} (ok : AllOk S) (hi : i < S.P.length) (h : FitS S) : FitS (pickP C i S) := by
  have hp : PlOk i (begP C S.now (S.P.getD i .no)) := (begP_ok (ok i hi)).1
  have hs := begP_sn C S.now (S.P.getD i .no) (h.sn i)
  unfold pickP
  generalize begP C S.now (S.P.getD i .no) = p at *
  split
  · exact ⟨fun o ho => (h.out o ho).mono, fun j => by have := h.sn j; show (S.P.getD j .no).x.sn ≤ ((S.now + 1 : Nat) : Int); omega⟩
  · unfold stpP
    split
    · refine ⟨fun o ho => ?_, set_sn h.sn i hs⟩
      replace ho : o ∈ S.out ++ [recP i p.x S.now (stepM S.s p.x.m).2.2] := ho
      rcases List.mem_append.1 ho with ho | ho
      · exact (h.out o ho).mono
      · obtain rfl := List.mem_singleton.1 ho
        refine ⟨?_, ?_⟩
        · show In64 (if p.x.m.kind = 0 then p.x.vl else (stepM S.s p.x.m).2.2.vl)
          split
          · exact hp.vl
          · exact stepM_in _ _
        · show p.x.sn ≤ ((S.now + 1 : Nat) : Int)
          omega
    · exact ⟨fun o ho => (h.out o ho).mono, set_sn h.sn i hs⟩
theorem ends_fit {C : Int} {i : Nat} {S : PlS} {r : List OpR} (h : Ends C i S r) (ok : AllOk S) (hf : FitS S) (hn : S.now + S.todo ≤ 190000) : ∀ o, o ∈ r → FitO 190000 o := by
  induction h with
  | @over i S hl => exact fun o ho => ⟨(hf.out o ho).1, by have := (hf.out o ho).2; omega⟩
  | @rest i S r h1 h2 h3 ih => exact ih ok hf hn
  | @step i S r h1 h2 h3 ih =>
    obtain ⟨k1, k2, k3⟩ := pick_ok (C := C) ok h1
    obtain ⟨k4, k5, k6⟩ := pick_sum (C := C) ok h1
    have := k6 h2
    exact ih k1 (pick_fit ok h1 hf) (by omega)
theorem picks_fit {C : Int} {K : Nat} (l : List Int) (S : PlS) (ok : AllOk S) (hf : FitS S) (hK : S.P.length = K) (h0 : 0 < K) (hn : S.now + l.length + S.todo ≤ 190000) :
    AllOk (picksP C K l S) ∧ FitS (picksP C K l S) ∧ (picksP C K l S).now + (picksP C K l S).todo ≤ 190000 := by
  induction l generalizing S with
  | nil => exact ⟨ok, hf, by show S.now + S.todo ≤ 190000; simp only [List.length_nil] at hn; omega⟩
  | cons p l ih =>
    have hp : (p.emod K).toNat < S.P.length := by
      have h1 := Int.emod_nonneg p (show (K : Int) ≠ 0 by omega)
      have h2 := Int.emod_lt_of_pos p (show (0 : Int) < (K : Int) by omega)
      have h3 : p.emod K = p % K := rfl
      omega
    obtain ⟨k1, k2, k3⟩ := pick_ok (C := C) ok hp
    obtain ⟨k4, k5, k6⟩ := pick_sum (C := C) ok hp
    simp only [List.length_cons] at hn
    exact ih (pickP C (p.emod K).toNat S) k1 (pick_fit ok hp hf) (by omega) (by omega)
theorem plays_fit {C : Int} {s : St} {plan : List (List ActR)} {picks : List Int} {r : List OpR} (h : Plays s C plan picks r) (hi : PlanIn plan) (hn : picks.length + (PlS.first s plan).todo ≤ 190000) : ∀ o, o ∈ r → FitO 190000 o := by
  unfold Plays at h
  split at h
  · subst h
    exact fun o ho => by cases ho
  · rename_i hp
    have h0 : 0 < plan.length := by
      cases plan with
      | nil => exact absurd rfl hp
      | cons a l => simp
    have hf : FitS (PlS.first s plan) := by
      refine ⟨fun o ho => (by cases ho), fun j => ?_⟩
      show ((plrs plan).getD j .no).x.sn ≤ _
      by_cases hj : j < plan.length
      · rw [plrs_at plan j hj]
        exact Int.le_refl _
      · rw [List.getD_eq_getElem?_getD, List.getElem?_eq_none (by rw [plrs_len]; omega)]
        exact Int.le_refl _
    obtain ⟨k1, k2, k3⟩ := picks_fit picks _ (first_ok s hi) hf (plrs_len plan) h0 (by show 0 + _ + _ ≤ _; omega)
    exact ends_fit h k1 k2 k3
theorem fit_lin {r : List OpR} (h : ∀ o, o ∈ r → FitO 190000 o) : ∀ o, o ∈ r → (Lit.int .i64 o.v).wf = true ∧ o.a ≤ 9223372036854775807 := by
  intro o ho
  obtain ⟨⟨h1, h2⟩, h3⟩ := h o ho
  refine ⟨?_, by omega⟩
  have e0 : IntKind.i64.min = -9223372036854775808 := rfl
  have e1 : IntKind.i64.max = 9223372036854775807 := rfl
  simp only [Lit.wf, Bool.and_eq_true, decide_eq_true_eq, e0, e1]
  exact ⟨h1, h2⟩
end Go.Proofs.Ytllllbepnnpeeaa

namespace Go.Proofs.Ytllllbepnnpeeaa
open Go Go.RowKit Go.Shelf
set_option linter.unusedSimpArgs false
set_option linter.unusedVariables false

/-- The value of a machine in block q. -/
def mval (q : Nat) : Mach → Value
  | .no => .nilIface
  | .push _ => .iface 136 (.pointer (some ⟨q, 0, none⟩))
  | .pop _ => .iface 173 (.pointer (some ⟨q, 0, none⟩))
  | .steal _ => .iface 139 (.pointer (some ⟨q, 0, none⟩))
/-- Block q holds it. -/
def MO (w : World) (q : Nat) : Mach → Prop
  | .no => True
  | .push f => OB w q 138 [.int .i64 f.fa] f 0 0 ∧ PushOk f
  | .pop f => OB w q 175 [] f 0 0 ∧ PopOk f
  | .steal f => OB w q 141 [.int .u64 f.fw] f 0 0 ∧ StealOk f
theorem mval_live {M : Mach} (q : Nat) (h : M ≠ .no) : ∃ ty, mval q M = .iface ty (.pointer (some ⟨q, 0, none⟩)) := by
  cases M with
  | no => exact absurd rfl h
  | push f => exact ⟨_, rfl⟩
  | pop f => exact ⟨_, rfl⟩
  | steal f => exact ⟨_, rfl⟩
section
variable {w w' : World} {q : Nat} {M : Mach}
theorem MO.line (h : MO w q M) : M = .no ∨ (1 ≤ M.line ∧ M.line ≤ 9) := by
  cases M with
  | no => exact .inl rfl
  | push f => have := h.2.1; exact .inr (by show 1 ≤ f.ln ∧ f.ln ≤ 9; omega)
  | pop f => have := h.2.1; exact .inr (by show 1 ≤ f.ln ∧ f.ln ≤ 9; omega)
  | steal f => have := h.2.1; exact .inr (by show 1 ≤ f.ln ∧ f.ln ≤ 9; omega)
theorem MO.fr {S : List Nat} (h : MO w q M) (hf : Fr S w w') (hq : M ≠ .no → (∃ ty post f, OB w q ty post f 0 0) → q ∉ S) : MO w' q M := by
  cases M with
  | no => trivial
  | push f => exact ⟨h.1.fr hf (hq (by intro e; cases e) ⟨_, _, _, h.1⟩), h.2⟩
  | pop f => exact ⟨h.1.fr hf (hq (by intro e; cases e) ⟨_, _, _, h.1⟩), h.2⟩
  | steal f => exact ⟨h.1.fr hf (hq (by intro e; cases e) ⟨_, _, _, h.1⟩), h.2⟩
theorem MO.ob (h : MO w q M) (hM : M ≠ .no) : ∃ ty post f, OB w q ty post f 0 0 ∧ (ty = 138 ∨ ty = 175 ∨ ty = 141) := by
  cases M with
  | no => exact absurd rfl hM
  | push f => exact ⟨_, _, _, h.1, .inl rfl⟩
  | pop f => exact ⟨_, _, _, h.1, .inr (.inl rfl)⟩
  | steal f => exact ⟨_, _, _, h.1, .inr (.inr rfl)⟩
theorem MO.below (h : MO w q M) (hb : Below w.heap.size w w') : MO w' q M := by
  cases M with
  | no => trivial
  | push f => exact ⟨h.1.below hb, h.2⟩
  | pop f => exact ⟨h.1.below hb, h.2⟩
  | steal f => exact ⟨h.1.below hb, h.2⟩
end
section
variable {w w' : World}
theorem MO.off {t : TypeId} {cs : Array Value} {b a : Nat} {X : Mach} (h : MO w a X) (hb : Blk w b t cs) (h1 : t ≠ 138) (h2 : t ≠ 175) (h3 : t ≠ 141) (hf : Fr [b] w w') : MO w' a X := by
  cases X with
  | no => trivial
  | push f => exact ⟨h.1.fr hf (by simpa using (hb.apart h.1.blk h1).symm), h.2⟩
  | pop f => exact ⟨h.1.fr hf (by simpa using (hb.apart h.1.blk h2).symm), h.2⟩
  | steal f => exact ⟨h.1.fr hf (by simpa using (hb.apart h.1.blk h3).symm), h.2⟩
end
theorem pushOkP (n : Int) (hn : n ≤ 100) (v : Int) : PushOk (fra1 0 0 1 2 n v) := ⟨.inl rfl, Int.le_refl _, Int.le_refl _, by show n ≤ _; omega⟩
theorem popOkP (n : Int) (hn : n ≤ 100) : PopOk (fra1 1 0 1 2 n 0) := ⟨.inl rfl, Int.le_refl _, Int.le_refl _, by show n ≤ _; omega⟩
theorem stealOkP (n : Int) (hn : n ≤ 100) : StealOk (fra1 2 0 1 2 n 0) := ⟨.inl rfl, Int.le_refl _, Int.le_refl _, by show n ≤ _; omega⟩
theorem eql_machP {q : Nat} {X : Mach} {V : Value} (h : mval q X = V) : ∃ bn : Bool, (bn = true ↔ X = .no) ∧ (∀ W : World, (binOp .eql 48 V .nilIface).run Try.prog W = .ok (.bool bn) W) ∧ (∀ W : World, (binOp .neq 48 V .nilIface).run Try.prog W = .ok (.bool (!bn)) W)
    ∧ (∀ (W : World) (x : Operand), (eqGuard .eql 48 x (.const .nilIface) V .nilIface).run Try.prog W = .ok () W) ∧ ∀ (W : World) (x : Operand), (eqGuard .neq 48 x (.const .nilIface) V .nilIface).run Try.prog W = .ok () W := by
  subst h
  cases X with
  | no => exact ⟨true, by simp, fun W => by kernel_rfl, fun W => by kernel_rfl, fun W x => by cases x <;> rfl, fun W x => by cases x <;> rfl⟩
  | push f => exact ⟨false, by simp, fun W => by kernel_rfl, fun W => by kernel_rfl, fun W x => rfl, fun W x => rfl⟩
  | pop f => exact ⟨false, by simp, fun W => by kernel_rfl, fun W => by kernel_rfl, fun W x => rfl, fun W x => rfl⟩
  | steal f => exact ⟨false, by simp, fun W => by kernel_rfl, fun W => by kernel_rfl, fun W x => rfl, fun W x => rfl⟩
end Go.Proofs.Ytllllbepnnpeeaa

namespace Go.Proofs.Ytllllbepnnpeeaa
open Go Go.RowKit
set_option linter.unusedSimpArgs false

/-- Rows of k cells each. -/
def RowsK (k : Nat) (R : List (List Value)) : Prop := ∀ r, r ∈ R → r.length = k ∧ ∀ u, u ∈ r → u.oneCell' = true
theorem RowsK.nil (k : Nat) : RowsK k [] := fun r hr => by cases hr
theorem RowsK.cons {k : Nat} {r : List Value} {R : List (List Value)} (h : RowsK k R) (hr : r.length = k ∧ ∀ u, u ∈ r → u.oneCell' = true) : RowsK k (r :: R) := fun x hx => by
  rcases List.mem_cons.1 hx with rfl | hx
  · exact hr
  · exact h x hx
theorem RowsK.append {k : Nat} {R Q : List (List Value)} (h : RowsK k R) (h' : RowsK k Q) : RowsK k (R ++ Q) := fun x hx => by
  rcases List.mem_append.1 hx with hx | hx
  · exact h x hx
  · exact h' x hx
theorem RowsK.len {k : Nat} {R : List (List Value)} (h : RowsK k R) : R.flatten.length = R.length * k := by
  induction R with
  | nil => simp
  | cons r R ih =>
    rw [List.flatten_cons, List.length_append, ih (fun x hx => h x (List.mem_cons_of_mem _ hx)), (h r (List.mem_cons_self ..)).1, List.length_cons, Nat.add_mul]
    omega
theorem RowsK.one {k : Nat} {R : List (List Value)} (h : RowsK k R) : ∀ u, u ∈ R.flatten → u.oneCell' = true := by
  intro u hu
  obtain ⟨r, hr, hu⟩ := List.mem_flatten.1 hu
  exact (h r hr).2 u hu
theorem RowsK.get {k : Nat} {R : List (List Value)} (h : RowsK k R) {i j : Nat} (hi : i < R.length) (hj : j < k) : R.flatten[i * k + j]? = (R.getD i [])[j]? := by
  induction R generalizing i with
  | nil => simp at hi
  | cons r R ih =>
    have hr := (h r (List.mem_cons_self ..)).1
    rw [List.flatten_cons]
    cases i with
    | zero =>
      rw [Nat.zero_mul, Nat.zero_add, List.getElem?_append_left (by omega)]
      rfl
    | succ i =>
      rw [List.getElem?_append_right (by rw [hr, Nat.add_mul]; omega), hr, show (i + 1) * k + j - k = i * k + j by rw [Nat.add_mul]; omega, ih (fun x hx => h x (List.mem_cons_of_mem _ hx)) (by simpa using hi)]
      rfl
/-- The slice at a reads as the rows R. -/
def InG (w : World) (k : Nat) (a : Option Addr) (R : List (List Value)) : Prop :=
  R.length ≤ maxLen ∧ RowsK k R ∧ ∀ i, i < R.length → ∃ x : Addr, a = some x ∧ x.block < w.heap.size ∧ ∀ j, j < k → w.cell? (x.add (i * k + j)) = (R.getD i [])[j]?
section
variable {w w' : World} {k : Nat} {a : Option Addr} {R : List (List Value)}
theorem InG.below (h : InG w k a R) (hb : Below w.heap.size w w') : InG w' k a R :=
  ⟨h.1, h.2.1, fun i hi => by
    obtain ⟨x, e, hx, hc⟩ := h.2.2 i hi
    exact ⟨x, e, Nat.lt_of_lt_of_le hx hb.size, fun j hj => (hb.cell (by rw [block_add]; exact hx)).trans (hc j hj)⟩⟩
theorem InG.nil (w : World) (k : Nat) (a : Option Addr) : InG w k a [] := ⟨by unfold maxLen; simp, RowsK.nil k, fun i hi => absurd hi (by simp)⟩
/-- The cells of an element, as the walk spells them. -/
theorem InG.at_ (h : InG w k a R) {i : Nat} (hi : i < R.length) (hk : 0 < k) : ∃ x : Addr, a = some x ∧ x.block < w.heap.size ∧ w.cell? (x.add (i * k)) = (R.getD i [])[0]? ∧ ∀ j, j + 1 < k → w.cell? ⟨(x.add (i * k)).block, (x.add (i * k)).off + (j + 1), none⟩ = (R.getD i [])[j + 1]? := by
  obtain ⟨x, e, hx, hc⟩ := h.2.2 i hi
  refine ⟨x, e, hx, hc 0 hk, fun j hj => ?_⟩
  have h1 := hc (j + 1) hj
  have hlen : (R.getD i []).length = k := by
    rw [List.getD_eq_getElem?_getD, List.getElem?_eq_getElem hi]
    exact (h.2.1 _ (List.getElem_mem hi)).1
  rw [List.getElem?_eq_getElem (by omega)] at h1 ⊢
  exact cell_field (i := i * k) (j := j) h1
end
/-- The slice v is the call's own (nil, or a row from block B on) and holds the rows R. -/
def OwnG (w : World) (B : Nat) (t : TypeId) (k : Nat) (v : Value) (R : List (List Value)) : Prop := RowsK k R ∧ w.ownsRow B t k v R.length R.flatten
section
variable {w w' : World} {B k : Nat} {t : TypeId} {v : Value} {R : List (List Value)}
theorem OwnG.nil (w : World) (B : Nat) (t : TypeId) (k : Nat) : OwnG w B t k (.slice none 0 0) [] := ⟨RowsK.nil k, World.ownsRow_nil w B _ _⟩
theorem OwnG.lt (h : OwnG w B t k v R) : ∀ b, v.ownBlock = some b → B ≤ b ∧ b < w.heap.size := World.ownsRow.lt h.2
theorem OwnG.same (h : OwnG w B t k v R) (e : ∀ b, v.ownBlock = some b → w'.heap[b]? = w.heap[b]?) : OwnG w' B t k v R := by
  refine ⟨h.1, h.2.1, ?_⟩
  rcases h.2.2 with h2 | ⟨g, cap, cur, rfl, h2, hg, rest⟩
  · exact .inl h2
  · exact .inr ⟨g, cap, cur, rfl, h2, (e g rfl).trans hg, rest⟩
theorem OwnG.below (h : OwnG w B t k v R) (hb : Below w.heap.size w w') : OwnG w' B t k v R := h.same fun b hb' => hb.block b (h.lt b hb').2
theorem OwnG.mono {B' : Nat} (h : OwnG w B t k v R) (hb : B' ≤ B) : OwnG w B' t k v R := by
  refine ⟨h.1, h.2.1, ?_⟩
  rcases h.2.2 with h2 | ⟨g, cap, cur, rfl, h2, rest⟩
  · exact .inl h2
  · exact .inr ⟨g, cap, cur, rfl, Nat.le_trans hb h2, rest⟩
theorem OwnG.form (h : OwnG w B t k v R) : ∃ a c, v = .slice a R.length c ∧ R.length ≤ c := by
  rcases h.2.2 with ⟨rfl, h2⟩ | ⟨g, cap, cur, rfl, _, _, hn, _⟩
  · rw [h2]
    exact ⟨_, _, rfl, Nat.le_refl _⟩
  · exact ⟨_, _, rfl, hn⟩
/-- Its block, if it has elements. -/
theorem OwnG.blk (h : OwnG w B t k v R) (hR : R ≠ []) : ∃ g cap cur, v = .slice (some ⟨g, 0, none⟩) R.length cap ∧ B ≤ g ∧ Blk w g t cur ∧ R.length ≤ cap ∧ cap ≤ maxLen ∧ cur.size = cap * k ∧ ∀ i j, i < R.length → j < k → cur[i * k + j]? = (R.getD i [])[j]? := by
  rcases h.2.2 with ⟨rfl, h2⟩ | ⟨g, cap, cur, rfl, hb, hg, hn, hm, hs, hc⟩
  · exact absurd (List.eq_nil_of_length_eq_zero h2) hR
  · refine ⟨g, cap, cur, rfl, hb, hg, hn, hm, hs, fun i j hi hj => ?_⟩
    have hl : i * k + j < R.length * k := by
      have : (i + 1) * k ≤ R.length * k := Nat.mul_le_mul_right k hi
      rw [Nat.add_mul] at this
      omega
    rw [← h.1.get hi hj, ← hc, List.getElem?_take, if_pos hl, Array.getElem?_toList]
theorem OwnG.ty (h : OwnG w B t k v R) : ∀ b, v.ownBlock = some b → ∃ cur, Blk w b t cur := by
  intro b hb
  rcases h.2.2 with ⟨rfl, _⟩ | ⟨g, cap, cur, rfl, _, hg, _⟩
  · cases hb
  · simp only [Value.ownBlock, Option.some.injEq] at hb
    subst hb
    exact ⟨cur, hg⟩
theorem OwnG.inG (h : OwnG w B t k v R) : ∃ a c, v = .slice a R.length c ∧ R.length ≤ c ∧ InG w k a R := by
  by_cases hR : R = []
  · subst hR
    obtain ⟨a, c, e, hc⟩ := h.form
    exact ⟨a, c, e, hc, InG.nil _ _ _⟩
  · obtain ⟨g, cap, cur, e, _, hg, hn, hm, _, hc⟩ := h.blk hR
    refine ⟨_, _, e, hn, Nat.le_trans hn hm, h.1, fun i hi => ⟨_, rfl, hg.lt, fun j hj => ?_⟩⟩
    have ea : (⟨g, 0, none⟩ : Addr).add (i * k + j) = ⟨g, i * k + j, none⟩ := by
      unfold Addr.add
      split
      · rename_i h0
        rw [h0]
      · simp
    rw [ea, hg.at_, hc i j hi hj]
end
theorem info_partsG {P : Program} {e : TypeId} {z : Value} {k b : Nat} (h : (P.info? e).map (fun i => (i.zero, i.size, i.bytes)) = some (some z, k, b)) : ∃ i0, P.info? e = some i0 ∧ i0.zero = some z ∧ i0.size = k ∧ i0.bytes = b := by
  cases hi : P.info? e with
  | none => rw [hi] at h; simp at h
  | some i0 =>
    rw [hi] at h
    simp only [Option.map_some, Option.some.injEq, Prod.mk.injEq] at h
    exact ⟨i0, rfl, h.1, h.2.1, h.2.2⟩
/-- One row more. -/
theorem wpList_appG {w : World} {ops : Array Oper} {rest : List Oper} {o : Oper} {a : Act} {Q : Exit → Act → World → Prop} {ts t : TypeId} {z : Value} {k b : Nat} (hinfo : (Try.prog.info? t).map (fun i => (i.zero, i.size, i.bytes)) = some (some z, k, b))
    (hz : z.cells.size = k) (hk : 0 < k) (hb1 : b ≤ 1000) (hu : Try.prog.underlying ts = some (.slice t)) (hgd : o.guard = none) (s x : Operand)
    (ho : o.op = .call { callee := .builtin .append, args := #[s, x], argTypes := #[ts, ts] })
    {base : Nat} {v : Value} {R : List (List Value)} (hs : a.eval s = v) (hown : OwnG w base t k v R) {ad : Addr} {c : Nat} {r : List Value} (hx : a.eval x = .slice (some ad) 1 c) (hr : r.length = k ∧ ∀ u, u ∈ r → u.oneCell' = true) (hc : ∀ j u, r[j]? = some u → w.cell? (ad.add j) = some u)
    (hn : R.length + 1 ≤ 1000000) (hb : base ≤ w.heap.size)
    (h : ∀ v' w', OwnG w' base t k v' (R ++ [r]) → w.grownBy w' v.ownBlock → (v'.ownBlock = v.ownBlock ∨ v'.ownBlock = some w.heap.size) → wpList Try.prog ops Q rest (a.put o.dst v') w') :
    wpList Try.prog ops Q (o :: rest) a w := by
  obtain ⟨i0, hi, hz0, hz1, hz2⟩ := info_partsG hinfo
  refine wpList_append_own_at w hgd s x ts ho base t i0 _ k b hu hi hz0 hz1 hz2 hz hk v R.length R.flatten hs hown.2 ad 1 c r hx (by rw [hr.1]; omega) hc hr.2 (by unfold maxLen; omega) ?_ hb ?_
  · have : (R.length + 1) * b ≤ 1000000 * 1000 := Nat.mul_le_mul hn hb1
    omega
  intro v' w' h1 h2 _ h4
  refine h v' w' ⟨hown.1.append (RowsK.nil k |>.cons hr), ?_⟩ h2 h4
  rw [List.flatten_append, List.length_append]
  simpa using h1
/-- A row in a block of its own. -/
theorem made_row1 {w : World} {g : Nat} {t : TypeId} {r : List Value} (h : Blk w g t r.toArray) : ∀ j u, r[j]? = some u → w.cell? ((⟨g, 0, none⟩ : Addr).add j) = some u := by
  intro j u hu
  have ea : (⟨g, 0, none⟩ : Addr).add j = ⟨g, j, none⟩ := by
    unfold Addr.add
    split
    · rename_i h0
      rw [h0]
    · simp
  rw [ea, h.at_, List.getElem?_toArray]
  exact hu
/-- What an append leaves: the call began in w0. -/
theorem below_appG {w0 w w' : World} {t : TypeId} {k : Nat} {v : Value} {R : List (List Value)} (hb : Below w0.heap.size w0 w) (h : OwnG w w0.heap.size t k v R) (hg : w.grownBy w' v.ownBlock) : Below w0.heap.size w0 w' :=
  ⟨hg.os.trans hb.os, hg.tape.trans hb.tape, hg.output.trans hb.output, Nat.le_trans hb.size hg.size, fun b hb' => (hg.block b (Nat.lt_of_lt_of_le hb' hb.size) (fun e => by
    have := (h.lt b e.symm).1
    omega)).trans (hb.block b hb')⟩
end Go.Proofs.Ytllllbepnnpeeaa

namespace Go.Proofs.Ytllllbepnnpeeaa
open Go Go.RowKit
set_option linter.unusedSimpArgs false
set_option linter.unusedVariables false

/-- The cells of an operation. -/
abbrev opC (x : OpR) : Array Value := #[.int .i64 x.k, .int .i64 x.m, .int .i64 x.a, .int .i64 x.b, .int .i64 x.c, .int .i64 x.v]
abbrev opL (x : OpR) : List Value := [.int .i64 x.k, .int .i64 x.m, .int .i64 x.a, .int .i64 x.b, .int .i64 x.c, .int .i64 x.v]
theorem info_op : (Try.prog.info? 28).map (fun i => (i.zero, i.size, i.bytes)) = some (some (.agg #[.int .i64 0, .int .i64 0, .int .i64 0, .int .i64 0, .int .i64 0, .int .i64 0]), 6, 48) := by kernel_rfl
theorem opL_ok (x : OpR) : (opL x).length = 6 ∧ ∀ u, u ∈ opL x → u.oneCell' = true := ⟨rfl, fun u hu => by
  simp only [opL, List.mem_cons, List.not_mem_nil, or_false] at hu
  rcases hu with rfl | rfl | rfl | rfl | rfl | rfl <;> rfl⟩
theorem opL_inj {x y : OpR} (h : opL x = opL y) : x = y := by
  simp only [opL, List.cons.injEq, Value.int.injEq, true_and, and_true] at h
  cases x
  cases y
  simp only [OpR.mk.injEq]
  exact h
theorem rows_op (l : List OpR) : RowsK 6 (l.map opL) := fun r hr => by
  obtain ⟨x, _, rfl⟩ := List.mem_map.1 hr
  exact opL_ok x
/-- The slice at a reads as the operations l. -/
abbrev InOp (w : World) (a : Option Addr) (l : List OpR) : Prop := InG w 6 a (l.map opL)
theorem InOp.len {w : World} {a : Option Addr} {l : List OpR} (h : InOp w a l) : l.length ≤ maxLen := by have := h.1; rwa [List.length_map] at this
theorem InOp.op {w : World} {a : Option Addr} {l : List OpR} (h : InOp w a l) {i : Nat} (hi : i < l.length) : ∃ x : Addr, a = some x ∧ x.block < w.heap.size ∧ w.cell? (x.add (i * 6)) = some (.int .i64 (l.getD i .zero).k)
    ∧ w.cell? ⟨(x.add (i * 6)).block, (x.add (i * 6)).off + 1, none⟩ = some (.int .i64 (l.getD i .zero).m) ∧ w.cell? ⟨(x.add (i * 6)).block, (x.add (i * 6)).off + 2, none⟩ = some (.int .i64 (l.getD i .zero).a)
    ∧ w.cell? ⟨(x.add (i * 6)).block, (x.add (i * 6)).off + 3, none⟩ = some (.int .i64 (l.getD i .zero).b) ∧ w.cell? ⟨(x.add (i * 6)).block, (x.add (i * 6)).off + 4, none⟩ = some (.int .i64 (l.getD i .zero).c)
    ∧ w.cell? ⟨(x.add (i * 6)).block, (x.add (i * 6)).off + 5, none⟩ = some (.int .i64 (l.getD i .zero).v) := by
  obtain ⟨x, e, hx, h0, hc⟩ := h.at_ (i := i) (by rw [List.length_map]; exact hi) (by omega)
  have eg : (l.map opL).getD i [] = opL (l.getD i .zero) := by
    rw [List.getD_eq_getElem?_getD, List.getD_eq_getElem?_getD, List.getElem?_map, List.getElem?_eq_getElem hi]
    rfl
  rw [eg] at h0 hc
  exact ⟨x, e, hx, h0, hc 0 (by omega), hc 1 (by omega), hc 2 (by omega), hc 3 (by omega), hc 4 (by omega)⟩

set_option maxRecDepth 100000 in
set_option maxHeartbeats 4000000 in
theorem pwf_any (x : OpR) (w : World) : Calls Try.prog 31 #[.agg (opC x)] w fun e w' => e = .returned (.bool (decide (WfO x))) ∧ Below w.heap.size w w' := by
  obtain ⟨k, m, a, b, c, v⟩ := x
  have hB := Lib.hid (below_one w (.cells (opC ⟨k, m, a, b, c, v⟩) 28))
  have hE := Blk.made w 28 (opC ⟨k, m, a, b, c, v⟩)
  have c0 := hE.at_ 0
  have c1 := hE.at_ 1
  have c2 := hE.at_ 2
  have c3 := hE.at_ 3
  have c4 := hE.at_ 4
  have c5 := hE.at_ 5
  clear hE
  by_cases n1 : a < 0
  · skip
    have g0 : decide (a < (0 : Int)) = true := by simp; omega
    have hR : decide (WfO ⟨k, m, a, b, c, v⟩) = false := by
      refine decide_eq_false fun h => ?_
      obtain ⟨h1, h2, h3, h4⟩ := h
      simp only [Formed] at h1 h2 h3 h4
      omega
    rw [hR]
    clear hR
    go_enter Try.func31, Try.ntmps31
    go_wp2
    go_ret
    exact ⟨rfl, hB.out⟩
  by_cases n2 : b < a
  · skip
    have g0 : decide (a < (0 : Int)) = false := by simp; omega
    have g1 : decide (b < a) = true := by simp; omega
    have hR : decide (WfO ⟨k, m, a, b, c, v⟩) = false := by
      refine decide_eq_false fun h => ?_
      obtain ⟨h1, h2, h3, h4⟩ := h
      simp only [Formed] at h1 h2 h3 h4
      omega
    rw [hR]
    clear hR
    go_enter Try.func31, Try.ntmps31
    go_wp2
    go_ret
    exact ⟨rfl, hB.out⟩
  by_cases n3 : m < 0
  · skip
    have g0 : decide (a < (0 : Int)) = false := by simp; omega
    have g1 : decide (b < a) = false := by simp; omega
    have g2 : decide (m < (0 : Int)) = true := by simp; omega
    have hR : decide (WfO ⟨k, m, a, b, c, v⟩) = false := by
      refine decide_eq_false fun h => ?_
      obtain ⟨h1, h2, h3, h4⟩ := h
      simp only [Formed] at h1 h2 h3 h4
      omega
    rw [hR]
    clear hR
    go_enter Try.func31, Try.ntmps31
    go_wp2
    go_ret
    exact ⟨rfl, hB.out⟩
  by_cases k0 : k = 0
  · subst k0
    by_cases d0 : c = 0
    · subst d0
      have g0 : decide (a < (0 : Int)) = false := by simp; omega
      have g1 : decide (b < a) = false := by simp; omega
      have g2 : decide (m < (0 : Int)) = false := by simp; omega
      have hR : decide (WfO ⟨0, m, a, b, 0, v⟩) = true := by
        exact decide_eq_true ⟨by simp [Formed], by show 0 ≤ m; omega, by show 0 ≤ a; omega, by show a ≤ b; omega⟩
      rw [hR]
      clear hR
      go_enter Try.func31, Try.ntmps31
      go_wp2
      go_ret
      exact ⟨rfl, hB.out⟩
    by_cases d3 : c = 3
    · subst d3
      have g0 : decide (a < (0 : Int)) = false := by simp; omega
      have g1 : decide (b < a) = false := by simp; omega
      have g2 : decide (m < (0 : Int)) = false := by simp; omega
      have hR : decide (WfO ⟨0, m, a, b, 3, v⟩) = true := by
        exact decide_eq_true ⟨by simp [Formed], by show 0 ≤ m; omega, by show 0 ≤ a; omega, by show a ≤ b; omega⟩
      rw [hR]
      clear hR
      go_enter Try.func31, Try.ntmps31
      go_wp2
      go_ret
      exact ⟨rfl, hB.out⟩
    · skip
      have g0 : decide (a < (0 : Int)) = false := by simp; omega
      have g1 : decide (b < a) = false := by simp; omega
      have g2 : decide (m < (0 : Int)) = false := by simp; omega
      have g3 : (c == (0 : Int)) = false := by simp; omega
      have g4 : (c == (3 : Int)) = false := by simp; omega
      have hR : decide (WfO ⟨0, m, a, b, c, v⟩) = false := by
        refine decide_eq_false fun h => ?_
        obtain ⟨h1, h2, h3, h4⟩ := h
        simp only [Formed] at h1 h2 h3 h4
        omega
      rw [hR]
      clear hR
      go_enter Try.func31, Try.ntmps31
      go_wp2
      go_ret
      exact ⟨rfl, hB.out⟩
  by_cases k1 : k = 1
  · subst k1
    by_cases d1 : c = 1
    · subst d1
      have g0 : decide (a < (0 : Int)) = false := by simp; omega
      have g1 : decide (b < a) = false := by simp; omega
      have g2 : decide (m < (0 : Int)) = false := by simp; omega
      have hR : decide (WfO ⟨1, m, a, b, 1, v⟩) = true := by
        exact decide_eq_true ⟨by simp [Formed], by show 0 ≤ m; omega, by show 0 ≤ a; omega, by show a ≤ b; omega⟩
      rw [hR]
      clear hR
      go_enter Try.func31, Try.ntmps31
      go_wp2
      go_ret
      exact ⟨rfl, hB.out⟩
    by_cases d2 : c = 2
    · subst d2
      have g0 : decide (a < (0 : Int)) = false := by simp; omega
      have g1 : decide (b < a) = false := by simp; omega
      have g2 : decide (m < (0 : Int)) = false := by simp; omega
      have hR : decide (WfO ⟨1, m, a, b, 2, v⟩) = true := by
        exact decide_eq_true ⟨by simp [Formed], by show 0 ≤ m; omega, by show 0 ≤ a; omega, by show a ≤ b; omega⟩
      rw [hR]
      clear hR
      go_enter Try.func31, Try.ntmps31
      go_wp2
      go_ret
      exact ⟨rfl, hB.out⟩
    · skip
      have g0 : decide (a < (0 : Int)) = false := by simp; omega
      have g1 : decide (b < a) = false := by simp; omega
      have g2 : decide (m < (0 : Int)) = false := by simp; omega
      have g3 : (c == (1 : Int)) = false := by simp; omega
      have g4 : (c == (2 : Int)) = false := by simp; omega
      have hR : decide (WfO ⟨1, m, a, b, c, v⟩) = false := by
        refine decide_eq_false fun h => ?_
        obtain ⟨h1, h2, h3, h4⟩ := h
        simp only [Formed] at h1 h2 h3 h4
        omega
      rw [hR]
      clear hR
      go_enter Try.func31, Try.ntmps31
      go_wp2
      go_ret
      exact ⟨rfl, hB.out⟩
  by_cases k2 : k = 2
  · subst k2
    by_cases d1 : c = 1
    · subst d1
      have g0 : decide (a < (0 : Int)) = false := by simp; omega
      have g1 : decide (b < a) = false := by simp; omega
      have g2 : decide (m < (0 : Int)) = false := by simp; omega
      have hR : decide (WfO ⟨2, m, a, b, 1, v⟩) = true := by
        exact decide_eq_true ⟨by simp [Formed], by show 0 ≤ m; omega, by show 0 ≤ a; omega, by show a ≤ b; omega⟩
      rw [hR]
      clear hR
      go_enter Try.func31, Try.ntmps31
      go_wp2
      go_ret
      exact ⟨rfl, hB.out⟩
    by_cases d2 : c = 2
    · subst d2
      have g0 : decide (a < (0 : Int)) = false := by simp; omega
      have g1 : decide (b < a) = false := by simp; omega
      have g2 : decide (m < (0 : Int)) = false := by simp; omega
      have hR : decide (WfO ⟨2, m, a, b, 2, v⟩) = true := by
        exact decide_eq_true ⟨by simp [Formed], by show 0 ≤ m; omega, by show 0 ≤ a; omega, by show a ≤ b; omega⟩
      rw [hR]
      clear hR
      go_enter Try.func31, Try.ntmps31
      go_wp2
      go_ret
      exact ⟨rfl, hB.out⟩
    by_cases d4 : c = 4
    · subst d4
      have g0 : decide (a < (0 : Int)) = false := by simp; omega
      have g1 : decide (b < a) = false := by simp; omega
      have g2 : decide (m < (0 : Int)) = false := by simp; omega
      have hR : decide (WfO ⟨2, m, a, b, 4, v⟩) = true := by
        exact decide_eq_true ⟨by simp [Formed], by show 0 ≤ m; omega, by show 0 ≤ a; omega, by show a ≤ b; omega⟩
      rw [hR]
      clear hR
      go_enter Try.func31, Try.ntmps31
      go_wp2
      go_ret
      exact ⟨rfl, hB.out⟩
    · skip
      have g0 : decide (a < (0 : Int)) = false := by simp; omega
      have g1 : decide (b < a) = false := by simp; omega
      have g2 : decide (m < (0 : Int)) = false := by simp; omega
      have g3 : (c == (1 : Int)) = false := by simp; omega
      have g4 : (c == (2 : Int)) = false := by simp; omega
      have g5 : (c == (4 : Int)) = false := by simp; omega
      have hR : decide (WfO ⟨2, m, a, b, c, v⟩) = false := by
        refine decide_eq_false fun h => ?_
        obtain ⟨h1, h2, h3, h4⟩ := h
        simp only [Formed] at h1 h2 h3 h4
        omega
      rw [hR]
      clear hR
      go_enter Try.func31, Try.ntmps31
      go_wp2
      go_ret
      exact ⟨rfl, hB.out⟩
  · skip
    have g0 : decide (a < (0 : Int)) = false := by simp; omega
    have g1 : decide (b < a) = false := by simp; omega
    have g2 : decide (m < (0 : Int)) = false := by simp; omega
    have g3 : (k == (0 : Int)) = false := by simp; omega
    have g4 : (k == (1 : Int)) = false := by simp; omega
    have g5 : (k == (2 : Int)) = false := by simp; omega
    have hR : decide (WfO ⟨k, m, a, b, c, v⟩) = false := by
      refine decide_eq_false fun h => ?_
      obtain ⟨h1, h2, h3, h4⟩ := h
      simp only [Formed] at h1 h2 h3 h4
      omega
    rw [hR]
    clear hR
    go_enter Try.func31, Try.ntmps31
    go_wp2
    go_ret
    exact ⟨rfl, hB.out⟩
end Go.Proofs.Ytllllbepnnpeeaa
