/-
  A region that draws its order, walked in the order of its text: where every operation gives, in every world that meets S, one and the same value, and keeps S (a call that makes memory among them), the order does not matter. No name of a seat's program.
-/
import Derived.Test.YtgipddeldddbnaaGreatMgAA
import Derived.OrdersHeld
import Derived.Deep.RegionHeld
namespace Go.Proofs.YtgipddeldddbnaaGreat
open Go Go.RowKit

section
variable {P : Program} {ops : Array Oper} {Q : Exit → Act → World → Prop} {S : World → Prop} {R : Act → Prop}

/-- The frame becomes that with v, and S holds. -/
def StepS (P : Program) (S : World → Prop) (a : Act) (dst : Option Tmp) (v : Value) : Result Next → Prop
  | .ok (.value u) w' => a.put dst u = a.put dst v ∧ S w'
  | .ok .skip w' => a.put dst undef = a.put dst v ∧ S w'
  | .ok (.enter f args) w' => Calls P f args w' fun e w'' => (∃ u, e = .returned u ∧ a.put dst u = a.put dst v) ∧ S w''
  | .ok (.row r args) w' => Rows P r args w' fun u w'' => a.put dst u = a.put dst v ∧ S w''
  | _ => False

/-- Operation o gives v in every world that meets S, and keeps S. -/
def GivesS (P : Program) (ops : Array Oper) (S : World → Prop) (o : Oper) (v : Value) (a : Act) : Prop :=
  (Region.wanted o (yielded ops a.tmps) = true ∧ ∀ w, S w → StepS P S a o.dst v ((execOp a.eval o).run P w)) ∨
  (Region.wanted o (yielded ops a.tmps) = false ∧ v = undef)

/-- The operations in this order; R of the frame at the end. -/
def SeqS (P : Program) (ops : Array Oper) (S : World → Prop) (R : Act → Prop) : List Nat → Act → Prop
  | [], a => R a
  | i :: is, a => ∃ o v, ops[i]? = some o ∧ GivesS P ops S o v a ∧ SeqS P ops S R is (a.put o.dst v)

theorem GivesS.wpOp {i : Nat} {o : Oper} {v : Value} {a : Act} (hi : ops[i]? = some o) (hg : GivesS P ops S o v a) {K : Act → World → Prop} {w : World} (hS : S w)
    (h : ∀ w', S w' → K (a.put o.dst v) w') : wpOp P ops Q i K a w := by
  unfold Go.wpOp
  simp only [hi]
  rcases hg with ⟨hw, hv⟩ | ⟨hw, rfl⟩
  · simp only [hw, if_true]
    refine .inl ?_
    have h1 := hv w hS
    unfold Oper.wp
    generalize (execOp a.eval o).run P w = r at *
    cases r with
    | ok n w' =>
      cases n <;> simp only [Oper.upon, StepS] at h1 ⊢
      case value u => rw [h1.1]; exact h _ h1.2
      case skip => rw [h1.1]; exact h _ h1.2
      case enter f args =>
        refine Calls.mono h1 fun e w'' he => ?_
        obtain ⟨⟨u, rfl, hu⟩, hs⟩ := he
        show K (a.put o.dst u) w''
        rw [hu]
        exact h _ hs
      case row row args =>
        refine Rows.mono h1 fun u w'' he => ?_
        rw [he.1]
        exact h _ he.2
    | halt x w' => simp only [StepS] at h1
  · simp only [hw, Bool.false_eq_true, if_false]
    exact h _ hS

/-- Another frame that differs only in what o does not look at. -/
theorem GivesS.of_put {o : Oper} {v u : Value} {a : Act} {d : Option Tmp} (hs : ∀ cs b, o.op ≠ .select cs b) (h1 : ∀ t, d = some t → t ∉ o.looksAt ops) (h2 : ∀ t, o.dst = some t → d ≠ some t) :
    GivesS P ops S o v (a.put d u) ↔ GivesS P ops S o v a := by
  have h2' : ∀ t, d = some t → o.dst ≠ some t := fun t ht he => h2 t he ht
  unfold GivesS
  rw [execOp_put o hs a d u h1, wanted_put o a d u h1]
  have key : ∀ x : Value, (a.put d u).put o.dst x = (a.put o.dst x).put d u := fun x => Act.put_comm a u x h2'
  have inj : ∀ x : Value, ((a.put d u).put o.dst x = (a.put d u).put o.dst v) ↔ (a.put o.dst x = a.put o.dst v) := by
    intro x
    cases hd : o.dst with
    | none => exact ⟨fun _ => rfl, fun _ => rfl⟩
    | some t =>
      constructor
      · intro h
        have h3 := congrArg (fun b : Act => b.tmps[t]?) h
        cases d with
        | none => exact h
        | some e =>
          have hne : e ≠ t := fun q => h2' e rfl (by rw [hd, q])
          simp only [Act.put] at h3 ⊢
          by_cases hlt : t < a.tmps.size
          · simp [hlt] at h3
            rw [h3]
          · have hz : ∀ y : Value, a.tmps.setIfInBounds t y = a.tmps := fun y => by
              simp [Array.setIfInBounds, hlt]
            rw [hz, hz]
      · intro h
        have k1 := key x
        have k2 := key v
        rw [hd] at k1 k2
        rw [k1, k2, h]
  have step : ∀ r : Result Next, StepS P S (a.put d u) o.dst v r ↔ StepS P S a o.dst v r := by
    intro r
    cases r with
    | ok n w' =>
      cases n <;> simp only [StepS]
      case value x => rw [inj]
      case skip => rw [inj]
      case enter f args =>
        constructor
        · intro h
          refine Calls.mono h fun e w'' he => ?_
          obtain ⟨⟨x, rfl, hx⟩, hs⟩ := he
          exact ⟨⟨x, rfl, (inj x).1 hx⟩, hs⟩
        · intro h
          refine Calls.mono h fun e w'' he => ?_
          obtain ⟨⟨x, rfl, hx⟩, hs⟩ := he
          exact ⟨⟨x, rfl, (inj x).2 hx⟩, hs⟩
      case row row args =>
        constructor
        · intro h
          exact Rows.mono h fun x w'' he => ⟨(inj x).1 he.1, he.2⟩
        · intro h
          exact Rows.mono h fun x w'' he => ⟨(inj x).2 he.1, he.2⟩
    | halt x w' => simp only [StepS]
  constructor
  · rintro (⟨h3, h4⟩ | h3)
    · exact .inl ⟨h3, fun w hS => (step _).1 (h4 w hS)⟩
    · exact .inr h3
  · rintro (⟨h3, h4⟩ | h3)
    · exact .inl ⟨h3, fun w hS => (step _).2 (h4 w hS)⟩
    · exact .inr h3

/-- Number j waits for number p. -/
def waitsFor (ops : Array Oper) (p j : Nat) : Bool := ((ops[j]?).map fun o => o.after.toList.any fun e => Region.binds .any e && e.on == p).getD false
/-- Number p comes first, or the two are apart. -/
def twoOk (ops : Array Oper) (p j : Nat) : Bool := waitsFor ops p j || (match ops[p]?, ops[j]? with | some x, some y => x.apart ops y | _, _ => true)
def pairsOk (ops : Array Oper) : Bool := (List.range ops.size).all fun j => (List.range j).all fun p => twoOk ops p j
/-- What is waited for stands before. -/
def earlier (ops : Array Oper) : Bool := (List.range ops.size).all fun j => ((ops[j]?).map fun o => o.after.all fun e => !Region.binds .any e || decide (e.on < j)).getD true

theorem twoOk_of {p j : Nat} (h : pairsOk ops = true) (hp : p < j) (hj : j < ops.size) : twoOk ops p j = true := by
  unfold pairsOk at h
  rw [List.all_eq_true] at h
  have := h j (List.mem_range.2 hj)
  rw [List.all_eq_true] at this
  exact this p (List.mem_range.2 hp)

/-- An operation that waits for none of those before it may be taken ahead of them. -/
theorem SeqS.pull (hsel : ∀ (j : Nat) (o : Oper) cs b, ops[j]? = some o → o.op ≠ .select cs b) {j : Nat} {post : List Nat} : ∀ (pre : List Nat) (a : Act),
    (∀ p ∈ pre, ∀ x y, ops[p]? = some x → ops[j]? = some y → x.apart ops y = true) → SeqS P ops S R (pre ++ j :: post) a →
    ∃ o v, ops[j]? = some o ∧ GivesS P ops S o v a ∧ SeqS P ops S R (pre ++ post) (a.put o.dst v)
  | [], _, _, h => h
  | p :: pre, a, hap, h => by
    obtain ⟨x, u, hx, hgx, hrest⟩ := h
    obtain ⟨y, v, hy, hgy, hrest2⟩ := SeqS.pull hsel pre (a.put x.dst u) (fun q hq => hap q (List.mem_cons_of_mem _ hq)) hrest
    obtain ⟨h1, h2, h3⟩ := Oper.apart_spec (hap p List.mem_cons_self x y hx hy)
    refine ⟨y, v, hy, (GivesS.of_put (hsel j y · · hy) h1 (fun t ht he => h2 t he ht)).1 hgy, x, u, hx, (GivesS.of_put (hsel p x · · hx) h3 (fun t ht he => h2 t ht he)).2 hgx, ?_⟩
    rw [← Act.put_comm a u v h2]
    exact hrest2

theorem any_of_seq (hsel : ∀ (j : Nat) (o : Oper) cs b, ops[j]? = some o → o.op ≠ .select cs b) (hpairs : pairsOk ops = true) (hear : earlier ops = true) (hR : ∀ a w, R a → S w → Q .normal a w) :
    ∀ (fuel : Nat) (is : List Nat) (listed : Array Bool) (a : Act) (w : World), is.length ≤ fuel → is.Pairwise (· < ·) → (∀ j, j ∈ is ↔ listed.getD j true = false) → listed.size = ops.size →
      SeqS P ops S R is a → S w → wpAny P .any ops Q fuel listed a w := by
  intro fuel
  -- the first of those that are left may come up
  have head : ∀ (i : Nat) (is : List Nat) (listed : Array Bool) (a : Act), (i :: is).Pairwise (· < ·) → (∀ j, j ∈ i :: is ↔ listed.getD j true = false) → listed.size = ops.size → SeqS P ops S R (i :: is) a → i ∈ Region.ready .any ops listed := by
    intro i is listed a hp hm hsz hq
    obtain ⟨o, v, ho, _, _⟩ := hq
    refine mem_ready.2 ⟨(hm i).1 List.mem_cons_self, o, ho, fun e he hb => ?_⟩
    have hlt : e.on < i := by
      have h1 := hear
      unfold earlier at h1
      rw [List.all_eq_true] at h1
      have h2 := h1 i (List.mem_range.2 (Array.getElem?_eq_some_iff.1 ho).1)
      rw [ho] at h2
      simp only [Option.map_some, Option.getD_some, Array.all_eq_true_iff_forall_mem] at h2
      have h3 := h2 e he
      simpa [hb] using h3
    have hno : e.on ∉ i :: is := by
      intro hin
      rcases List.mem_cons.1 hin with h | h
      · omega
      · have := (List.pairwise_cons.1 hp).1 _ h
        omega
    have hi : i < ops.size := (Array.getElem?_eq_some_iff.1 ho).1
    have hl : e.on < listed.size := by omega
    have hne : ¬ listed.getD e.on true = false := fun h => hno ((hm _).2 h)
    simp only [Array.getD_eq_getD_getElem?, Array.getElem?_eq_getElem hl, Option.getD_some] at hne ⊢
    simpa using hne
  induction fuel with
  | zero =>
    intro is listed a w hlen hp hm hsz hq hS
    have : is = [] := List.length_eq_zero_iff.1 (by omega)
    subst this
    refine ⟨?_, hR a w hq hS⟩
    cases hr : Region.ready .any ops listed with
    | nil => rfl
    | cons j js =>
      have hj : j ∈ Region.ready .any ops listed := by rw [hr]; exact List.mem_cons_self
      have := (hm j).2 (mem_ready.1 hj).1
      cases this
  | succ fuel ih =>
    intro is listed a w hlen hp hm hsz hq hS
    refine ⟨fun h0 => ?_, fun j hj => ?_⟩
    · cases is with
      | nil => exact hR a w hq hS
      | cons i is =>
        have := head i is listed a hp hm hsz hq
        rw [h0] at this
        cases this
    · obtain ⟨hjun, oj, hoj, hall⟩ := mem_ready.1 hj
      have hjin : j ∈ is := (hm j).2 hjun
      obtain ⟨pre, post, rfl⟩ := List.append_of_mem hjin
      have hjlt : j < ops.size := (Array.getElem?_eq_some_iff.1 hoj).1
      have hpp := List.pairwise_append.1 hp
      have hpj : ∀ p ∈ pre, p < j := fun p hp' => hpp.2.2 p hp' j List.mem_cons_self
      have hap : ∀ p ∈ pre, ∀ x y, ops[p]? = some x → ops[j]? = some y → x.apart ops y = true := by
        intro p hp' x y hx hy
        have h1 := twoOk_of hpairs (hpj p hp') hjlt
        unfold twoOk at h1
        rw [hx, hy] at h1
        rcases (Bool.or_eq_true _ _).mp h1 with h2 | h2
        · exfalso
          unfold waitsFor at h2
          rw [hy] at h2
          simp only [Option.map_some, Option.getD_some, List.any_eq_true] at h2
          obtain ⟨e, he, heq⟩ := h2
          have he := Array.mem_toList_iff.1 he
          rw [Bool.and_eq_true, beq_iff_eq] at heq
          rw [hoj] at hy
          cases hy
          have h3 := hall e he heq.1
          rw [heq.2] at h3
          have h4 := (hm p).1 (List.mem_append_left _ hp')
          have hpl : p < listed.size := by have := hpj p hp'; omega
          simp only [Array.getD_eq_getD_getElem?, Array.getElem?_eq_getElem hpl, Option.getD_some] at h3 h4
          rw [h3] at h4
          cases h4
        · exact h2
      obtain ⟨o, v, ho, hg, hrest⟩ := SeqS.pull hsel pre a hap hq
      refine GivesS.wpOp ho hg hS fun w' hS' => ?_
      have hjn : j ∉ pre ++ post := by
        intro hin
        rcases List.mem_append.1 hin with h | h
        · exact Nat.lt_irrefl _ (hpj j h)
        · exact Nat.lt_irrefl _ ((List.pairwise_cons.1 hpp.2.1).1 j h)
      refine ih (pre ++ post) _ _ w' ?_ ?_ ?_ (by simpa using hsz) hrest hS'
      · simp only [List.length_append, List.length_cons] at hlen ⊢
        omega
      · exact hp.sublist (List.Sublist.append_left (List.sublist_cons_self _ _) _)
      · intro k
        by_cases hkj : k = j
        · subst hkj
          have hl : k < listed.size := by omega
          simp [hl]
          simpa using hjn
        · rw [getD_set_ne true (fun e => hkj e.symm), ← hm k]
          simp [hkj]

/-- **The region's law.** -/
theorem wp_region_seq {id : Nat} {a : Act} {w : World} (S : World → Prop) (is : List Nat) (hm : P.follows .mixedOrders = true) (his : is = List.range ops.size) (hsel : Region.noSelect ops = true) (hpairs : pairsOk ops = true) (hear : earlier ops = true)
    (hS : S w.drew) (h : SeqS P ops S (fun a' => ∀ w', S w' → Q .normal a' w') is a) : (Code.region id ops true).wp P Q a w := by
  refine wp_region_any hm (any_of_seq (Region.noSelect_spec hsel) hpairs hear (fun a w h hS => h w hS) ops.size is _ a _ ?_ ?_ ?_ (by simp) h hS)
  · rw [his, List.length_range]
    exact Nat.le_refl _
  · rw [his]
    exact List.pairwise_lt_range
  · intro j
    rw [his, List.mem_range]
    by_cases hj : j < ops.size
    · simp [hj]
    · simp [hj]

/-! ### The steps of a walk -/
theorem SeqS.val {i : Nat} {is : List Nat} {a : Act} {o : Oper} {v : Value} (hi : ops[i]? = some o) (hy : YieldsIf P ops S o v a) (h : SeqS P ops S R is (a.put o.dst v)) : SeqS P ops S R (i :: is) a := by
  refine ⟨o, v, hi, ?_, h⟩
  rcases hy with ⟨hw, hv⟩ | ⟨hw, rfl⟩
  · refine .inl ⟨hw, fun w hS => ?_⟩
    rw [hv w hS]
    exact ⟨rfl, hS⟩
  · exact .inr ⟨hw, rfl⟩
theorem SeqS.skip {i : Nat} {is : List Nat} {a : Act} {o : Oper} (hi : ops[i]? = some o) (hw : Region.wanted o (yielded ops a.tmps) = false) (h : SeqS P ops S R is (a.put o.dst undef)) : SeqS P ops S R (i :: is) a :=
  ⟨o, undef, hi, .inr ⟨hw, rfl⟩, h⟩
/-- A call, or what else changes the world and keeps S. -/
theorem SeqS.call {i : Nat} {is : List Nat} {a : Act} {o : Oper} (v : Value) (hi : ops[i]? = some o) (hw : Region.wanted o (yielded ops a.tmps) = true)
    (hc : ∀ w, S w → ∀ K : Act → World → Prop, Shut (∀ a' w', a' = a.put o.dst v → S w' → K a' w') → Oper.wp P o a w K (fun _ _ _ => False))
    (h : SeqS P ops S R is (a.put o.dst v)) : SeqS P ops S R (i :: is) a := by
  refine ⟨o, v, hi, .inl ⟨hw, fun w hS => ?_⟩, h⟩
  have h1 := hc w hS (fun a' w' => a' = a.put o.dst v ∧ S w') (fun a' w' e hs => ⟨e, hs⟩)
  unfold Oper.wp at h1
  generalize (execOp a.eval o).run P w = r at *
  cases r with
  | ok n w' =>
    cases n <;> simp only [Oper.upon, StepS] at h1 ⊢
    case value u => exact h1
    case skip => exact h1
    case defer d =>
      have h2 := congrArg Act.defers h1.1
      exfalso
      revert h2
      cases o.dst <;> simp [Act.put]
    case enter f args =>
      refine Calls.mono h1 fun e w'' he => ?_
      cases e with
      | returned u => exact ⟨⟨u, rfl, he.1⟩, he.2⟩
      | panicked c => exact he.elim
      | outgrown => obtain ⟨_, _, hf⟩ := he; exact hf.elim
    case row row args => exact h1
  | halt x w' => cases x <;> simp only [Oper.upon] at h1 ⊢
/-- A whole struct loaded. -/
theorem yields_row {o : Oper} {a : Act} (hw : Region.wanted o (yielded ops a.tmps) = true) (ty : TypeId) (x : Operand) (ho : o.op = .load ty x) (g : Nat) (hx : a.eval x = .pointer (some ⟨g, 0, none⟩)) (t : TypeId) (cs : Array Value)
    (hB : ∀ w, S w → Blk w g t cs) (d : TypeDesc) (hu : P.underlying ty = some d) (hd : (match d with | .struct _ | .array _ _ => true | _ => false) = true) (hi : (P.info? ty).map (·.size) = some cs.size) :
    YieldsIf P ops S o (.agg cs) a := by
  refine .inl ⟨hw, fun w hS => ?_⟩
  unfold execOp
  simp only [ho, hx, Instr.loadAt, Instr.sureAddr, Sem.run_bind, Sem.run_pure, Result.andThen_ok, run_loadVar_row w g t ty cs (0, 0) d (hB w hS) hu hd hi]
/-! ### The same for a part of a region: what is left waits for it -/
/-- What number j waits for. -/
def depsOf (ops : Array Oper) (j : Nat) : List Nat := ((ops[j]?).map fun o => (o.after.toList.filter fun e => Region.binds .any e).map (·.on)).getD []
def reaches (ops : Array Oper) : Nat → Nat → Nat → Bool
  | 0, _, _ => false
  | n + 1, i, t => (depsOf ops t).any fun d => d == i || reaches ops n i d
def seqOk (ops : Array Oper) (n : Nat) (listed : Array Bool) (is : List Nat) : Bool :=
  (is.all fun i => !listed.getD i true && (depsOf ops i).all fun d => listed.getD d false || is.contains d) &&
  ((List.range ops.size).all fun t => if listed.getD t false then (depsOf ops t).all fun d => listed.getD d false else is.contains t || is.all fun i => reaches ops n i t)
def mark (listed : Array Bool) (is : List Nat) : Array Bool := is.foldl (fun l i => l.setIfInBounds i true) listed
theorem mem_depsOf {j d : Nat} {o : Oper} (ho : ops[j]? = some o) : d ∈ depsOf ops j ↔ ∃ e ∈ o.after, Region.binds .any e = true ∧ e.on = d := by
  unfold depsOf
  rw [ho]
  simp [and_assoc]
theorem mark_set : ∀ (is : List Nat) (listed : Array Bool) (j : Nat), mark (listed.setIfInBounds j true) is = (mark listed is).setIfInBounds j true
  | [], _, _ => rfl
  | i :: is, listed, j => by
    show mark ((listed.setIfInBounds j true).setIfInBounds i true) is = (mark (listed.setIfInBounds i true) is).setIfInBounds j true
    rw [← mark_set is]
    by_cases h : j = i
    · subst h
      rfl
    · rw [Array.setIfInBounds_comm _ _ h]
theorem mark_pull (pre post : List Nat) (listed : Array Bool) (j : Nat) : mark (listed.setIfInBounds j true) (pre ++ post) = mark listed (pre ++ j :: post) := by
  unfold mark
  rw [List.foldl_append, List.foldl_append, List.foldl_cons]
  congr 1
  exact mark_set pre listed j

/-- Whoever is listed, what he waits for is. -/
def ClosedL (ops : Array Oper) (listed : Array Bool) : Prop := ∀ t, listed.getD t false = true → ∀ d ∈ depsOf ops t, listed.getD d false = true
theorem ClosedL.reach {listed : Array Bool} (hc : ClosedL ops listed) : ∀ (n i t : Nat), reaches ops n i t = true → (∀ d ∈ depsOf ops t, listed.getD d false = true) → listed.getD i false = true
  | 0, _, _, h, _ => by cases h
  | n + 1, i, t, h, hd => by
    unfold reaches at h
    rw [List.any_eq_true] at h
    obtain ⟨d, hdm, h⟩ := h
    rcases (Bool.or_eq_true _ _).mp h with h1 | h1
    · rw [beq_iff_eq] at h1
      subst h1
      exact hd _ hdm
    · exact hc.reach n i d h1 (hc d (hd d hdm))

theorem getD_ff {listed : Array Bool} {i : Nat} (h : listed.getD i true = false) : listed.getD i false = false := by
  rcases Nat.lt_or_ge i listed.size with h' | h'
  · simp only [Array.getD_eq_getD_getElem?, Array.getElem?_eq_getElem h', Option.getD_some] at h ⊢
    exact h
  · simp [Array.getElem?_eq_none h']

theorem any_of_part (n : Nat) (hsel : ∀ (j : Nat) (o : Oper) cs b, ops[j]? = some o → o.op ≠ .select cs b) (hpairs : pairsOk ops = true) (hear : earlier ops = true) {rest : Nat} {L : Array Bool}
    (hR : ∀ a w, R a → S w → wpAny P .any ops Q rest L a w) :
    ∀ (k : Nat) (is : List Nat) (listed : Array Bool) (a : Act) (w : World), is.length = k → is.Pairwise (· < ·) → (∀ i ∈ is, listed.getD i true = false) →
      (∀ i ∈ is, ∀ d ∈ depsOf ops i, listed.getD d false = true ∨ d ∈ is) → ClosedL ops listed →
      (∀ t, t < ops.size → listed.getD t true = false → t ∉ is → ∀ i ∈ is, reaches ops n i t = true) → mark listed is = L →
      SeqS P ops S R is a → S w → wpAny P .any ops Q (k + rest) listed a w := by
  intro k
  induction k with
  | zero =>
    intro is listed a w hlen _ _ _ _ _ hL hq hS
    have : is = [] := List.length_eq_zero_iff.1 hlen
    subst this
    rw [show (0 + rest) = rest from Nat.zero_add _]
    have hl : listed = L := hL
    rw [hl]
    exact hR a w hq hS
  | succ k ih =>
    intro is listed a w hlen hp hun hdep hcl htail hL hq hS
    rw [show k + 1 + rest = (k + rest) + 1 by omega]
    have hlt : ∀ j o, ops[j]? = some o → ∀ d ∈ depsOf ops j, d < j := by
      intro j o ho d hd
      obtain ⟨e, he, hb, rfl⟩ := (mem_depsOf ho).1 hd
      have h1 := hear
      unfold earlier at h1
      rw [List.all_eq_true] at h1
      have h2 := h1 j (List.mem_range.2 (Array.getElem?_eq_some_iff.1 ho).1)
      rw [ho] at h2
      simp only [Option.map_some, Option.getD_some, Array.all_eq_true_iff_forall_mem] at h2
      simpa [hb] using h2 e he
    -- only those of the part may come up
    have hin : ∀ j ∈ Region.ready .any ops listed, j ∈ is := by
      intro j hj
      obtain ⟨hjun, oj, hoj, hall⟩ := mem_ready.1 hj
      refine Decidable.byContradiction fun hn => ?_
      cases is with
      | nil => simp at hlen
      | cons i is =>
        have h1 := htail j (Array.getElem?_eq_some_iff.1 hoj).1 hjun hn i List.mem_cons_self
        have h2 := hcl.reach n i j h1 (fun d hd => by
          obtain ⟨e, he, hb, rfl⟩ := (mem_depsOf hoj).1 hd
          exact hall e he hb)
        rw [getD_ff (hun i List.mem_cons_self)] at h2
        cases h2
    refine ⟨fun h0 => ?_, fun j hj => ?_⟩
    · exfalso
      cases is with
      | nil => simp at hlen
      | cons i is =>
        obtain ⟨o, v, ho, _, _⟩ := hq
        have : i ∈ Region.ready .any ops listed := by
          refine mem_ready.2 ⟨hun i List.mem_cons_self, o, ho, fun e he hb => ?_⟩
          have hd : e.on ∈ depsOf ops i := (mem_depsOf ho).2 ⟨e, he, hb, rfl⟩
          rcases hdep i List.mem_cons_self _ hd with h | h
          · exact h
          · exfalso
            have h1 := hlt i o ho _ hd
            rcases List.mem_cons.1 h with h2 | h2
            · omega
            · have := (List.pairwise_cons.1 hp).1 _ h2
              omega
        rw [h0] at this
        cases this
    · have hjin := hin j hj
      obtain ⟨hjun, oj, hoj, hall⟩ := mem_ready.1 hj
      obtain ⟨pre, post, rfl⟩ := List.append_of_mem hjin
      have hjlt : j < ops.size := (Array.getElem?_eq_some_iff.1 hoj).1
      have hpp := List.pairwise_append.1 hp
      have hpj : ∀ p ∈ pre, p < j := fun p hp' => hpp.2.2 p hp' j List.mem_cons_self
      have hap : ∀ p ∈ pre, ∀ x y, ops[p]? = some x → ops[j]? = some y → x.apart ops y = true := by
        intro p hp' x y hx hy
        have h1 := twoOk_of hpairs (hpj p hp') hjlt
        unfold twoOk at h1
        rw [hx, hy] at h1
        rcases (Bool.or_eq_true _ _).mp h1 with h2 | h2
        · exfalso
          unfold waitsFor at h2
          rw [hy] at h2
          simp only [Option.map_some, Option.getD_some, List.any_eq_true] at h2
          obtain ⟨e, he, heq⟩ := h2
          have he := Array.mem_toList_iff.1 he
          rw [Bool.and_eq_true, beq_iff_eq] at heq
          rw [hoj] at hy
          cases hy
          have h3 := hall e he heq.1
          rw [heq.2, getD_ff (hun p (List.mem_append_left _ hp'))] at h3
          cases h3
        · exact h2
      obtain ⟨o, v, ho, hg, hrest⟩ := SeqS.pull hsel pre a hap hq
      refine GivesS.wpOp ho hg hS fun w' hS' => ?_
      have hjn : j ∉ pre ++ post := by
        intro hin
        rcases List.mem_append.1 hin with h | h
        · exact Nat.lt_irrefl _ (hpj j h)
        · exact Nat.lt_irrefl _ ((List.pairwise_cons.1 hpp.2.1).1 j h)
      have hsub : ∀ x ∈ pre ++ post, x ∈ pre ++ j :: post := fun x hx => by
        rcases List.mem_append.1 hx with h | h
        · exact List.mem_append_left _ h
        · exact List.mem_append_right _ (List.mem_cons_of_mem _ h)
      have hjl : j < listed.size := by
        rcases Nat.lt_or_ge j listed.size with h' | h'
        · exact h'
        · simp [Array.getElem?_eq_none h'] at hjun
      have hjt : (listed.setIfInBounds j true).getD j false = true := by simp [hjl]
      refine ih (pre ++ post) _ _ w' ?_ (hp.sublist (List.Sublist.append_left (List.sublist_cons_self _ _) _)) ?_ ?_ ?_ ?_ ((mark_pull _ _ _ _).trans hL) hrest hS'
      · simp only [List.length_append, List.length_cons] at hlen ⊢
        omega
      · intro i hi
        have hij : j ≠ i := fun e => hjn (by rw [e]; exact hi)
        rw [getD_set_ne true hij]
        exact hun i (hsub i hi)
      · intro i hi d hd
        by_cases hdj : d = j
        · subst hdj
          exact .inl hjt
        · rcases hdep i (hsub i hi) d hd with h | h
          · exact .inl (getD_set_true h)
          · right
            rcases List.mem_append.1 h with h | h
            · exact List.mem_append_left _ h
            · rcases List.mem_cons.1 h with h | h
              · exact absurd h hdj
              · exact List.mem_append_right _ h
      · intro t ht d hd
        by_cases htj : t = j
        · subst htj
          obtain ⟨e, he, hb, rfl⟩ := (mem_depsOf hoj).1 hd
          exact getD_set_true (hall e he hb)
        · rw [getD_set_ne false (fun e => htj e.symm)] at ht
          exact getD_set_true (hcl t ht d hd)
      · intro t ht hun' hnot i hi
        by_cases htj : t = j
        · subst htj
          have := getD_ff hun'
          rw [hjt] at this
          cases this
        · rw [getD_set_ne true (fun e => htj e.symm)] at hun'
          refine htail t ht hun' (fun hin => hnot ?_) i (hsub i hi)
          rcases List.mem_append.1 hin with h | h
          · exact List.mem_append_left _ h
          · rcases List.mem_cons.1 h with h | h
            · exact absurd h htj
            · exact List.mem_append_right _ h

/-- **The part's law**: the operations 'is' come first in whatever order, for all others that are left wait for each of them; n bounds the length of a way from one to another. -/
theorem wpAny_part {fuel : Nat} {listed : Array Bool} {a : Act} {w : World} (S : World → Prop) (n : Nat) (is : List Nat) (rest : Nat) (L : Array Bool) (hf : fuel = is.length + rest) (hsel : Region.noSelect ops = true) (hpairs : pairsOk ops = true) (hear : earlier ops = true)
    (hinc : is.Pairwise (· < ·)) (hok : seqOk ops n listed is = true) (hL : mark listed is = L) (hS : S w)
    (h : SeqS P ops S (fun a' => ∀ w', S w' → wpAny P .any ops Q rest L a' w') is a) : wpAny P .any ops Q fuel listed a w := by
  subst hf
  unfold seqOk at hok
  rw [Bool.and_eq_true, List.all_eq_true, List.all_eq_true] at hok
  obtain ⟨h1, h2⟩ := hok
  have hun : ∀ i ∈ is, listed.getD i true = false := fun i hi => by
    have := h1 i hi
    rw [Bool.and_eq_true] at this
    simpa using this.1
  refine any_of_part n (Region.noSelect_spec hsel) hpairs hear (fun a w h hS => h w hS) _ is listed a w rfl hinc hun ?_ ?_ ?_ hL h hS
  · intro i hi d hd
    have := h1 i hi
    rw [Bool.and_eq_true, List.all_eq_true] at this
    rcases (Bool.or_eq_true _ _).mp (this.2 d hd) with h | h
    · exact .inl h
    · exact .inr (by simpa using h)
  · intro t ht d hd
    by_cases hlt : t < ops.size
    · have := h2 t (List.mem_range.2 hlt)
      rw [ht, if_pos rfl, List.all_eq_true] at this
      exact this d hd
    · unfold depsOf at hd
      rw [Array.getElem?_eq_none (by omega)] at hd
      cases hd
  · intro t ht hunt hnot i hi
    have := h2 t (List.mem_range.2 ht)
    rw [getD_ff hunt] at this
    simp only [Bool.false_eq_true, if_false, Bool.or_eq_true] at this
    rcases this with h | h
    · exact absurd (by simpa using h) hnot
    · rw [List.all_eq_true] at h
      exact h i hi
theorem SeqS.done {a : Act} (h : R a) : SeqS P ops S R [] a := h
/-- One operation alone may come up. -/
theorem wpAny_one {i fuel : Nat} {listed : Array Bool} {a : Act} {w : World} {o : Oper} (hr : Region.ready .any ops listed = [i]) (ho : ops[i]? = some o) (hw : Region.wanted o (yielded ops a.tmps) = true)
    (h : ∀ K : Act → World → Prop, Shut (∀ a' w', wpAny P .any ops Q fuel (listed.setIfInBounds i true) a' w' → K a' w') → Oper.wp P o a w K Q) : wpAny P .any ops Q (fuel + 1) listed a w := by
  refine wpAny_all hr (by simp) fun j hj => ?_
  obtain rfl : j = i := by simpa using hj
  unfold wpOp
  rw [ho]
  show if Region.wanted o (yielded ops a.tmps) = true then _ else _
  rw [if_pos hw]
  exact .inl (h _ (fun a' w' h => h))
/-- The same with the slot that is written, told. -/
theorem SeqS.valD {i : Nat} {is : List Nat} {a : Act} {o : Oper} {v : Value} (d : Nat) (hi : ops[i]? = some o) (hd : o.dst = some d) (hy : YieldsIf P ops S o v a) (h : SeqS P ops S R is { a with tmps := a.tmps.setIfInBounds d v }) : SeqS P ops S R (i :: is) a :=
  SeqS.val hi hy (by rw [hd]; exact h)
theorem SeqS.callD {i : Nat} {is : List Nat} {a : Act} {o : Oper} (d : Nat) (v : Value) (hi : ops[i]? = some o) (hd : o.dst = some d) (hw : Region.wanted o (yielded ops a.tmps) = true)
    (hc : ∀ w, S w → ∀ K : Act → World → Prop, Shut (∀ a' w', a' = { a with tmps := a.tmps.setIfInBounds d v } → S w' → K a' w') → Oper.wp P o a w K (fun _ _ _ => False))
    (h : SeqS P ops S R is { a with tmps := a.tmps.setIfInBounds d v }) : SeqS P ops S R (i :: is) a :=
  SeqS.call v hi hw (fun w hS K hK => hc w hS K (fun a' w' e hS' => hK a' w' (by rw [hd]; exact e) hS')) (by rw [hd]; exact h)
end
end Go.Proofs.YtgipddeldddbnaaGreat
