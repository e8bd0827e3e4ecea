/-
  Pure: the machines of levels as frames: what a line runs, what follows it, a step, all steps until the end. No function is named.
  Plain mathematics of a deque as words. No function is named.
-/
import Derived.Test.YtgipddeldddbnaaGreatMgAB
import Derived.Test.YtgipddeldddbnaaGreatMgBA
import Derived.Test.YtgipddeldddbnaaGreatMgAD
import Derived.Test.YtgipddeldddbnaaGreatMgAA
namespace Go.Proofs.YtgipddeldddbnaaGreat
open Go Go.RowKit
set_option linter.unusedSimpArgs false

/-- The frame of the machine that the present line of a frame runs: kind 5 is Push (worker fa, level fb, value fd), kind 6 Pop (worker fa, level fi). -/
def lvChild (c : Cfg) (f : Fra) : Fra :=
  if f.kd = 5 then
    if f.ln = 1 then fra1 0 (rQueue c f.fa f.fb).1 (rQueue c f.fa f.fb).2.1 (rQueue c f.fa f.fb).2.2.1 (rQueue c f.fa f.fb).2.2.2 f.fd
    else { fra1 3 0 0 0 0 (rBitmap c f.fa) with fb := f.fb }
  else if f.ln = 2 then fra1 1 (rQueue c f.fa f.fi).1 (rQueue c f.fa f.fi).2.1 (rQueue c f.fa f.fi).2.2.1 (rQueue c f.fa f.fi).2.2.2 0
  else { fra1 4 (rQueue c f.fa f.fi).1 (rQueue c f.fa f.fi).2.1 (rQueue c f.fa f.fi).2.2.1 (rQueue c f.fa f.fi).2.2.2 (rBitmap c f.fa) with fb := f.fi }
/-- A line of one of these. -/
def lvK (s : St) (g : Fra) : St × Fra × Res := if g.kd = 0 then pushS s g else if g.kd = 1 then popS s g else if g.kd = 3 then setS s g else clearS s g
/-- What a frame does with its result. -/
def lvBack (f : Fra) (cd vl : Int) : Fra × Res :=
  if f.kd = 5 then (if f.ln = 2 ∨ cd = 3 then (f, ⟨true, cd, 0⟩) else ({ f with ln := 2 }, .none))
  else if f.ln = 3 then ({ f with ln := 1 }, .none)
  else if cd = 1 then (f, ⟨true, 1, vl⟩) else ({ f with ln := 3 }, .none)
/-- A step of a machine: its frame, and that of the machine that its line runs, if it has begun. -/
def lvS (c : Cfg) (s : St) (x : Fra × Option Fra) : St × (Fra × Option Fra) × Res :=
  if x.1.kd = 6 ∧ x.1.ln = 1 then
    if s.old (rBitmap c x.1.fa) = 0 then (s.go 1 (rBitmap c x.1.fa) id, ({ x.1 with fu := s.old (rBitmap c x.1.fa) }, none), ⟨true, 2, 0⟩)
    else (s.go 1 (rBitmap c x.1.fa) id, ({ x.1 with fu := s.old (rBitmap c x.1.fa), fi := hiS (s.old (rBitmap c x.1.fa)).toNat, ln := 2 }, none), .none)
  else
    if (lvK s (x.2.getD (lvChild c x.1))).2.2.dn = true then
      ((lvK s (x.2.getD (lvChild c x.1))).1, ((lvBack x.1 (lvK s (x.2.getD (lvChild c x.1))).2.2.cd (lvK s (x.2.getD (lvChild c x.1))).2.2.vl).1, none), (lvBack x.1 (lvK s (x.2.getD (lvChild c x.1))).2.2.cd (lvK s (x.2.getD (lvChild c x.1))).2.2.vl).2)
    else ((lvK s (x.2.getD (lvChild c x.1))).1, (x.1, some (lvK s (x.2.getD (lvChild c x.1))).2.1), .none)

/-- The steps of a machine until it is done: the state behind them, the result, how many there are. -/
inductive RunM {M : Type} (stp : St → M → St × M × Res) : St → M → St → Res → Nat → Prop
  | last {s : St} {x : M} : (stp s x).2.2.dn = true → RunM stp s x (stp s x).1 (stp s x).2.2 1
  | cons {s s' : St} {x : M} {r : Res} {n : Nat} : (stp s x).2.2.dn = false → RunM stp (stp s x).1 (stp s x).2.1 s' r n → RunM stp s x s' r (n + 1)
theorem RunM.of_runS {stp : St → Fra → St × Fra × Res} : ∀ {n : Nat} {s s' : St} {f : Fra} {r : Res} {N : Nat}, runS stp n s f = some (s', r, N) → RunM stp s f s' r N
  | 0, _, _, _, _, _, h => by simp [runS] at h
  | n + 1, s, s', f, r, N, h => by
    cases hd : (stp s f).2.2.dn with
    | true =>
      obtain ⟨e1, e2, e3⟩ := runS_end h hd
      rw [← e1, ← e2, e3]
      exact .last hd
    | false =>
      obtain ⟨M, e1, e2⟩ := runS_on h hd
      rw [e2]
      exact .cons hd (RunM.of_runS e1)
/-- The lines of a kind, as lvK has them. -/
theorem RunM.k {stp : St → Fra → St × Fra × Res} {kd : Int} (hk : ∀ s f, f.kd = kd → lvK s f = stp s f) (hq : ∀ s f, (stp s f).2.1.kd = f.kd) {s s' : St} {f : Fra} {r : Res} {N : Nat} (h : RunM stp s f s' r N) : f.kd = kd → RunM lvK s f s' r N := by
  induction h with
  | @last s f h1 =>
    intro hf
    have h1' := h1
    rw [← hk s f hf] at h1' ⊢
    exact RunM.last h1'
  | @cons s s' f r n h1 h2 ih =>
    intro hf
    have h3 := ih (by rw [hq]; exact hf)
    rw [← hk s f hf] at h1 h3
    exact RunM.cons h1 h3
theorem lvK_push (s : St) (f : Fra) (h : f.kd = 0) : lvK s f = pushS s f := by unfold lvK; rw [if_pos h]
theorem lvK_pop (s : St) (f : Fra) (h : f.kd = 1) : lvK s f = popS s f := by unfold lvK; rw [if_neg (by omega), if_pos h]
theorem lvK_set (s : St) (f : Fra) (h : f.kd = 3) : lvK s f = setS s f := by unfold lvK; rw [if_neg (by omega), if_neg (by omega), if_pos h]
theorem lvK_clear (s : St) (f : Fra) (h : f.kd = 4) : lvK s f = clearS s f := by unfold lvK; rw [if_neg (by omega), if_neg (by omega), if_neg (by omega)]
/-- A machine whose inner one runs to its end, and what follows. -/
theorem lvS_in {c : Cfg} {s : St} {f : Fra} {g : Option Fra} (h : ¬ (f.kd = 6 ∧ f.ln = 1)) (hd : (lvK s (g.getD (lvChild c f))).2.2.dn = false) : lvS c s (f, g) = ((lvK s (g.getD (lvChild c f))).1, (f, some (lvK s (g.getD (lvChild c f))).2.1), .none) := by
  unfold lvS
  rw [if_neg h, if_neg (by rw [hd]; decide)]
theorem lvS_out {c : Cfg} {s : St} {f : Fra} {g : Option Fra} (h : ¬ (f.kd = 6 ∧ f.ln = 1)) (hd : (lvK s (g.getD (lvChild c f))).2.2.dn = true) : lvS c s (f, g) = ((lvK s (g.getD (lvChild c f))).1, ((lvBack f (lvK s (g.getD (lvChild c f))).2.2.cd (lvK s (g.getD (lvChild c f))).2.2.vl).1, none), (lvBack f (lvK s (g.getD (lvChild c f))).2.2.cd (lvK s (g.getD (lvChild c f))).2.2.vl).2) := by
  unfold lvS
  rw [if_neg h, if_pos hd]
theorem RunM.end_ {c : Cfg} {f : Fra} (h : ¬ (f.kd = 6 ∧ f.ln = 1)) {s s' : St} {x : Fra} {r : Res} {N : Nat} (hr : RunM lvK s x s' r N) : ∀ g : Option Fra, g.getD (lvChild c f) = x → (lvBack f r.cd r.vl).2.dn = true → RunM (lvS c) s (f, g) s' (lvBack f r.cd r.vl).2 N := by
  induction hr with
  | @last s x h1 =>
    intro g hg hb
    subst hg
    have e := lvS_out (c := c) (s := s) (g := g) h h1
    have h2 := RunM.last (stp := lvS c) (s := s) (x := (f, g)) (by rw [e]; exact hb)
    rw [e] at h2
    exact h2
  | @cons s s' x r n h1 h2 ih =>
    intro g hg hb
    subst hg
    have e := lvS_in (c := c) (s := s) (g := g) h h1
    have h3 := ih (some (lvK s (g.getD (lvChild c f))).2.1) rfl hb
    refine RunM.cons (by rw [e]) ?_
    rw [e]
    exact h3
theorem RunM.next {c : Cfg} {f : Fra} (h : ¬ (f.kd = 6 ∧ f.ln = 1)) {s s' : St} {x : Fra} {r : Res} {N : Nat} (hr : RunM lvK s x s' r N) : ∀ g : Option Fra, g.getD (lvChild c f) = x → (lvBack f r.cd r.vl).2.dn = false → ∀ {s2 : St} {r2 : Res} {N2 : Nat}, RunM (lvS c) s' ((lvBack f r.cd r.vl).1, none) s2 r2 N2 → RunM (lvS c) s (f, g) s2 r2 (N2 + N) := by
  induction hr with
  | @last s x h1 =>
    intro g hg hb s2 r2 N2 h2
    subst hg
    have e := lvS_out (c := c) (s := s) (g := g) h h1
    refine RunM.cons (by rw [e]; exact hb) ?_
    rw [e]
    exact h2
  | @cons s s' x r n h1 h2 ih =>
    intro g hg hb s2 r2 N2 h5
    subst hg
    have e := lvS_in (c := c) (s := s) (g := g) h h1
    have h3 := ih (some (lvK s (g.getD (lvChild c f))).2.1) rfl hb h5
    refine RunM.cons (n := N2 + n) (by rw [e]) ?_
    rw [e]
    exact h3
theorem lvS_top0 {c : Cfg} {s : St} {f : Fra} {g : Option Fra} (hk : f.kd = 6) (hl : f.ln = 1) (hz : s.old (rBitmap c f.fa) = 0) : lvS c s (f, g) = (s.go 1 (rBitmap c f.fa) id, ({ f with fu := s.old (rBitmap c f.fa) }, none), ⟨true, 2, 0⟩) := by
  unfold lvS
  rw [if_pos ⟨hk, hl⟩, if_pos hz]
theorem lvS_top {c : Cfg} {s : St} {f : Fra} {g : Option Fra} (hk : f.kd = 6) (hl : f.ln = 1) (hz : ¬ s.old (rBitmap c f.fa) = 0) : lvS c s (f, g) = (s.go 1 (rBitmap c f.fa) id, ({ f with fu := s.old (rBitmap c f.fa), fi := hiS (s.old (rBitmap c f.fa)).toNat, ln := 2 }, none), .none) := by
  unfold lvS
  rw [if_pos ⟨hk, hl⟩, if_neg hz]
end Go.Proofs.YtgipddeldddbnaaGreat

namespace Go.Proofs.YtgipddeldddbnaaGreat
open Go Go.RowKit
set_option linter.unusedSimpArgs false

/-- The cell of an index, in a deque from cell 2 on. -/
theorem ring2 (n : Nat) (hn : 1 ≤ n ∧ n ≤ 100) (i : Int) : ∃ r : Nat, r < n ∧ (r : Int) = i % n ∧ ringI 2 n i = ((2 + r : Nat) : Int) := by
  have h1 := Int.emod_nonneg i (show (n : Int) ≠ 0 by omega)
  have h2 := Int.emod_lt_of_pos i (show (0 : Int) < n by omega)
  refine ⟨(i % n).toNat, by omega, by omega, ?_⟩
  unfold ringI
  rw [if_neg (by omega)]
  unfold wrap64
  omega
/-- The words X are those of a deque whose indices begin with t, and which has the words l as entries. -/
structure DqX (X : List Int) (n t : Nat) (l : List Int) : Prop where
  top : X.getD 0 0 = t
  ent : ∀ i, i < l.length → X.getD (2 + (t + i) % n) 0 = l.getD i 0
theorem mod_ne {n a b : Nat} (h : a < b) (h' : b < a + n) : a % n ≠ b % n := by
  intro e
  have h1 := Nat.div_add_mod a n
  have h2 := Nat.div_add_mod b n
  have h3 : n * (b / n) = n * (a / n) + (b - a) := by omega
  have h4 : a / n < b / n := by
    rcases Nat.lt_or_ge (a / n) (b / n) with h | h
    · exact h
    · have := Nat.mul_le_mul_left n h
      omega
  have h5 : n * (a / n + 1) ≤ n * (b / n) := Nat.mul_le_mul_left n h4
  rw [Nat.mul_add] at h5
  omega
theorem DqX.put {X : List Int} {n t : Nat} {l : List Int} (h : DqX X n t l) (hX : X.length = n + 3) (hn : 1 ≤ n) (hl : l.length < n) (v : Int) : DqX (X.set (2 + (t + l.length) % n) v) n t (l ++ [v]) := by
  have hm := Nat.mod_lt (t + l.length) (show n > 0 by omega)
  refine ⟨?_, fun i hi => ?_⟩
  · rw [List.getD_eq_getElem?_getD, List.getElem?_set_ne (by omega), ← List.getD_eq_getElem?_getD]
    exact h.top
  · rw [List.length_append] at hi
    simp only [List.length_cons, List.length_nil, Nat.zero_add] at hi
    by_cases hil : i < l.length
    · have hne := mod_ne (n := n) (a := t + i) (b := t + l.length) (by omega) (by omega)
      rw [List.getD_eq_getElem?_getD, List.getElem?_set_ne (by omega), ← List.getD_eq_getElem?_getD, h.ent i hil, List.getD_eq_getElem?_getD, List.getD_eq_getElem?_getD, List.getElem?_append_left hil]
    · obtain rfl : i = l.length := by omega
      rw [List.getD_eq_getElem?_getD, List.getElem?_set_self (by omega), List.getD_eq_getElem?_getD, List.getElem?_append_right (Nat.le_refl _), Nat.sub_self]
      rfl

end Go.Proofs.YtgipddeldddbnaaGreat
