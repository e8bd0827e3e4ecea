/-
  Plain mathematics of histories of the injector: contents, the least key, which events are allowed. No function and no type is named.
-/
import Derived.Test.YtpmdmeolehabjaaCfMath
import Derived.Test.YtpmdmeolehabjaaEv
namespace Go.Proofs.Ytpmdmeolehabjaa
open Go Go.RowKit
set_option linter.unusedSimpArgs false
set_option linter.unusedVariables false

/-- A key: deadline, arrival, task. -/
structure KO where
  d : Int
  a : Int
  t : Int
abbrev zk : KO := ⟨0, 0, 0⟩
abbrev kcells (k : KO) : List Value := [.int .i64 k.d, .int .i64 k.a, .int .i64 k.t]
/-- Is the first one before the second one? -/
def ltO (x y : KO) : Bool := if x.d = y.d then decide (x.a < y.a) else decide (x.d < y.d)
/-- The place of the least one of the first n keys. -/
def leastO (l : List KO) : Nat → Nat
  | 0 => 0
  | n + 1 => if ltO (l.getD n zk) (l.getD (leastO l n) zk) = true then n else leastO l n
theorem ltO_self (x : KO) : ltO x x = false := by simp [ltO]
theorem leastO_one (l : List KO) : leastO l 1 = 0 := by simp [leastO, ltO_self]
theorem leastO_lt (l : List KO) : ∀ n, 0 < n → leastO l n < n
  | 0, h => absurd h (by omega)
  | 1, _ => by rw [leastO_one]; omega
  | n + 2, _ => by
    have := leastO_lt l (n + 1) (by omega)
    unfold leastO
    split <;> omega
theorem leastO_le (l : List KO) (n : Nat) : leastO l n ≤ n := by
  cases n with
  | zero => simp [leastO]
  | succ n => have := leastO_lt l (n + 1) (by omega); omega
/-- Its place among all. -/
def lstO (l : List KO) : Nat := leastO l l.length
theorem lstO_lt {l : List KO} (h : 0 < l.length) : lstO l < l.length := leastO_lt l _ h
/-- A content: the keys, and how many were accepted. -/
structure Con where
  ks : List KO
  n : Nat
/-- What an event does; none if it is not allowed. -/
def chO (c : Cfg) (x : Con) (e : Ev) : Option Con :=
  if e.kd = 1 then
    (if (0 ≤ e.ot ∧ e.ot < (c.su.length : Int)) ∧ (x.ks.length : Int) ≠ c.he then some ⟨x.ks ++ [⟨(c.su.getD e.ot.toNat (0, 0, 0)).2.2, x.n, e.tk⟩], x.n + 1⟩ else none)
  else if e.kd = 13 then
    (if 0 < x.ks.length ∧ (x.ks.getD (lstO x.ks) zk).t = e.tk then some ⟨x.ks.eraseIdx (lstO x.ks), x.n⟩ else none)
  else if e.kd = 2 then (if e.lv ≠ 1 ∨ (x.ks.length : Int) = c.he then some x else none)
  else some x
/-- What a content keeps after i events. -/
structure CIn (c : Cfg) (i : Nat) (x : Con) : Prop where
  he : (x.ks.length : Int) ≤ c.he
  ni : x.n ≤ i
theorem chO_in {c : Cfg} {i : Nat} {x y : Con} {e : Ev} (h : CIn c i x) (hc : chO c x e = some y) : CIn c (i + 1) y := by
  have h1 := h.he
  have h2 := h.ni
  unfold chO at hc
  split at hc
  · split at hc
    · rename_i _ hq
      simp only [Option.some.injEq] at hc
      subst hc
      exact ⟨by simp only [List.length_append, List.length_cons, List.length_nil]; omega, by show x.n + 1 ≤ i + 1; omega⟩
    · cases hc
  split at hc
  · split at hc
    · simp only [Option.some.injEq] at hc
      subst hc
      exact ⟨by have := List.length_eraseIdx_le x.ks (lstO x.ks); show ((x.ks.eraseIdx (lstO x.ks)).length : Int) ≤ c.he; omega, by show x.n ≤ i + 1; omega⟩
    · cases hc
  split at hc
  · split at hc
    · simp only [Option.some.injEq] at hc
      subst hc
      exact ⟨h1, by omega⟩
    · cases hc
  · simp only [Option.some.injEq] at hc
    subst hc
    exact ⟨h1, by omega⟩
/-- The content behind the first events, if all of them are allowed. -/
def preO (c : Cfg) : List Ev → Con → Option Con
  | [], x => some x
  | e :: l, x => match chO c x e with
    | none => none
    | some y => preO c l y
theorem preO_snoc (c : Cfg) : ∀ (l : List Ev) (x : Con) (e : Ev), preO c (l ++ [e]) x = match preO c l x with
    | none => none
    | some y => chO c y e
  | [], x, e => by
    simp only [List.nil_append, preO]
    cases chO c x e <;> rfl
  | d :: l, x, e => by
    simp only [List.cons_append, preO]
    cases chO c x d with
    | none => rfl
    | some y => exact preO_snoc c l y e
abbrev con0 : Con := ⟨[], 0⟩
theorem preO_step {c : Cfg} {es : List Ev} {i : Nat} {x : Con} {e : Ev} (h : preO c (es.take i) con0 = some x) (he : es[i]? = some e) : preO c (es.take (i + 1)) con0 = chO c x e := by
  obtain ⟨hi, rfl⟩ := List.getElem?_eq_some_iff.1 he
  rw [← List.take_append_getElem hi, preO_snoc, h]
theorem preO_in {c : Cfg} {es : List Ev} (hh : 0 ≤ c.he) : ∀ {i : Nat} {x : Con}, i ≤ es.length → preO c (es.take i) con0 = some x → CIn c i x
  | 0, x, _, h => by
    simp only [List.take_zero, preO, Option.some.injEq] at h
    subst h
    exact ⟨by simpa using hh, Nat.le_refl _⟩
  | i + 1, x, hi, h => by
    have he : es[i]? = some es[i] := List.getElem?_eq_getElem (by omega)
    rw [← List.take_append_getElem (by omega), preO_snoc] at h
    cases hp : preO c (es.take i) con0 with
    | none => rw [hp] at h; cases h
    | some y =>
      rw [hp] at h
      exact chO_in (preO_in hh (by omega) hp) h
/-- The events up to number i are allowed, that one is not; x is the content there. -/
structure Fol (c : Cfg) (es : List Ev) (i : Nat) (x : Con) : Prop where
  le : i ≤ es.length
  pre : preO c (es.take i) con0 = some x
  no : ∀ e, es[i]? = some e → chO c x e = none
theorem preO_less {c : Cfg} {es : List Ev} {i j : Nat} {y : Con} (h : preO c (es.take j) con0 = some y) (hij : i < j) (hj : j ≤ es.length) : ∃ x z, preO c (es.take i) con0 = some x ∧ chO c x (es.getD i ⟨0, 0, 0, 0, 0⟩) = some z := by
  induction j generalizing y with
  | zero => omega
  | succ j ih =>
    rw [← List.take_append_getElem (by omega : j < es.length), preO_snoc] at h
    cases hp : preO c (es.take j) con0 with
    | none => rw [hp] at h; cases h
    | some x =>
      rw [hp] at h
      by_cases e : i = j
      · subst e
        refine ⟨x, y, hp, ?_⟩
        rw [List.getD_eq_getElem?_getD, List.getElem?_eq_getElem (by omega)]
        exact h
      · exact ih hp (by omega) (by omega)
theorem Fol.one {c : Cfg} {es : List Ev} {i j : Nat} {x y : Con} (h : Fol c es i x) (k : Fol c es j y) : i = j ∧ x = y := by
  have key : ∀ {i j : Nat} {x y : Con}, Fol c es i x → Fol c es j y → ¬ i < j := by
    intro i j x y h k hij
    obtain ⟨u, z, h1, h2⟩ := preO_less k.pre hij k.le
    rw [h.pre] at h1
    simp only [Option.some.injEq] at h1
    subst h1
    have hi : i < es.length := by have := k.le; omega
    have h3 := h.no es[i] (List.getElem?_eq_getElem hi)
    rw [List.getD_eq_getElem?_getD, List.getElem?_eq_getElem hi] at h2
    rw [show (some es[i]).getD ⟨0, 0, 0, 0, 0⟩ = es[i] from rfl, h3] at h2
    cases h2
  have e : i = j := by have := key h k; have := key k h; omega
  subst e
  have := h.pre.symm.trans k.pre
  simp only [Option.some.injEq] at this
  exact ⟨rfl, this⟩
/-- The tasks in the order of the keys. -/
def tskO : Nat → List KO → List Int
  | 0, _ => []
  | n + 1, l => (l.getD (lstO l) zk).t :: tskO n (l.eraseIdx (lstO l))
end Go.Proofs.Ytpmdmeolehabjaa
