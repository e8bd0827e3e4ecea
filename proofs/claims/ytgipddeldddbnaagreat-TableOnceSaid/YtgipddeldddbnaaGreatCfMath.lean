/-
  Plain mathematics of configurations: the numbers that a decoding reads, the errors of a check, the numbers that an encoding writes.
-/

namespace Go.Proofs.YtgipddeldddbnaaGreat
set_option linter.unusedSimpArgs false

abbrev T3 := Int × Int × Int

/-- A configuration: nine numbers, programs, submissions. -/
structure Cfg where
  wo : Int
  le : Int
  cl : Int
  ta : Int
  de : Int
  he : Int
  ba : Int
  ag : Int
  pa : Int
  pr : List (List T3)
  su : List T3
deriving DecidableEq

/-- A number is from a to b. -/
def inB (v a b : Int) : Bool := decide (a ≤ v) && decide (v ≤ b)
attribute [irreducible] inB
theorem inB_iff {v a b : Int} : inB v a b = true ↔ a ≤ v ∧ v ≤ b := by
  unfold inB
  simp
theorem inB_not {v a b : Int} : inB v a b = false ↔ v < a ∨ b < v := by
  unfold inB
  simp
  omega

def numsB (c : Cfg) : Bool :=
  inB c.wo 1 16 && inB c.le 1 64 && inB c.cl 1 (min 8 c.le) && inB c.ta 1 256 && inB c.de 1 64 && inB c.he 1 64 && inB c.ba 1 c.de && inB c.ag 0 65536 && inB c.pa 1 65536

/-- An instruction is valid for n programs and le levels. -/
def insB (n le : Int) (x : T3) : Bool :=
  if x.1 = 0 then inB x.2.1 1 64 && decide (x.2.2 = 0)
  else if x.1 = 1 then inB x.2.1 0 (n - 1) && inB x.2.2 0 (le - 1)
  else if x.1 = 2 then inB x.2.1 0 31 && decide (x.2.2 = 0)
  else false

def chkPs (n le : Int) : List (List T3) → Int
  | [] => 0
  | p :: r => if 32 < p.length then 2 else if p.all (insB n le) then chkPs n le r else 1
def subOk (le : Int) (s : T3) : Bool := inB s.2.1 0 (le - 1) && inB s.2.2 0 16777215
def chkSs (n le : Int) : List T3 → Int
  | [] => 0
  | s :: r => if inB s.1 0 (n - 1) then (if subOk le s then chkSs n le r else 1) else 3
def progsR (c : Cfg) : Int := if inB c.pr.length 1 32 then chkPs c.pr.length c.le c.pr else 2
def subsR (c : Cfg) : Int := if 64 < c.su.length then 2 else chkSs c.pr.length c.le c.su
/-- The first error. -/
def chk (c : Cfg) : Int := if numsB c then (if progsR c = 0 then subsR c else progsR c) else 1

theorem chkPs_drop {n le : Int} {ps : List (List T3)} {k : Nat} {p : List T3} (h : ps[k]? = some p) : chkPs n le (ps.drop k) = if 32 < p.length then 2 else if p.all (insB n le) then chkPs n le (ps.drop (k + 1)) else 1 := by
  obtain ⟨hk, he⟩ := List.getElem?_eq_some_iff.1 h
  rw [List.drop_eq_getElem_cons hk, he]
  rfl
theorem chkSs_drop {n le : Int} {ss : List T3} {k : Nat} {s : T3} (h : ss[k]? = some s) : chkSs n le (ss.drop k) = if inB s.1 0 (n - 1) then (if subOk le s then chkSs n le (ss.drop (k + 1)) else 1) else 3 := by
  obtain ⟨hk, he⟩ := List.getElem?_eq_some_iff.1 h
  rw [List.drop_eq_getElem_cons hk, he]
  rfl
theorem all_drop {p : T3 → Bool} {l : List T3} {k : Nat} {x : T3} (h : l[k]? = some x) : (l.drop k).all p = (p x && (l.drop (k + 1)).all p) := by
  obtain ⟨hk, he⟩ := List.getElem?_eq_some_iff.1 h
  rw [List.drop_eq_getElem_cons hk, he]
  rfl
theorem chkPs_in (n le : Int) : ∀ ps, 0 ≤ chkPs n le ps ∧ chkPs n le ps ≤ 3
  | [] => by simp [chkPs]
  | p :: r => by
    have := chkPs_in n le r
    unfold chkPs
    split
    · omega
    · split <;> omega
theorem chkSs_in (n le : Int) : ∀ ss, 0 ≤ chkSs n le ss ∧ chkSs n le ss ≤ 3
  | [] => by simp [chkSs]
  | s :: r => by
    have := chkSs_in n le r
    unfold chkSs
    split
    · split <;> omega
    · omega
theorem chk_in (c : Cfg) : 0 ≤ chk c ∧ chk c ≤ 3 := by
  unfold chk
  split
  · have h1 := chkPs_in c.pr.length c.le c.pr
    have h2 := chkSs_in c.pr.length c.le c.su
    unfold progsR subsR
    split <;> split <;> (try split) <;> omega
  · omega

/-- The byte at a place: 0 behind the last one. -/
def strm (zs : List Int) (i : Nat) : Int := zs.getD i 0

/-- An instruction read from place i on, and the place behind it. -/
def rdI (f : Nat → Int) (n le : Int) (i : Nat) : T3 × Nat :=
  if f i % 3 = 0 then ((0, 1 + f (i + 1) % 4, 0), i + 2)
  else if f i % 3 = 1 then ((1, f (i + 1) % n, f (i + 2) % le), i + 3)
  else ((2, f (i + 1) % 4, 0), i + 2)
def rdIs (f : Nat → Int) (n le : Int) : Nat → Nat → List T3 × Nat
  | 0, i => ([], i)
  | k + 1, i => ((rdIs f n le k i).1 ++ [(rdI f n le (rdIs f n le k i).2).1], (rdI f n le (rdIs f n le k i).2).2)
def rdP (f : Nat → Int) (n le : Int) (i : Nat) : List T3 × Nat := rdIs f n le (f i % 6).toNat (i + 1)
def rdPs (f : Nat → Int) (n le : Int) : Nat → Nat → List (List T3) × Nat
  | 0, i => ([], i)
  | k + 1, i => ((rdPs f n le k i).1 ++ [(rdP f n le (rdPs f n le k i).2).1], (rdP f n le (rdPs f n le k i).2).2)
def rdS (f : Nat → Int) (n le : Int) (i : Nat) : T3 := (f i % n, f (i + 1) % le, f (i + 2) % 16)
def rdSs (f : Nat → Int) (n le : Int) : Nat → Nat → List T3
  | 0, _ => []
  | k + 1, i => rdSs f n le k i ++ [rdS f n le (i + 3 * k)]

def nLe (f : Nat → Int) : Int := 1 + f 1 % 4
def nDe (f : Nat → Int) : Int := 1 + f 4 % 4
def nPr (f : Nat → Int) : Int := 1 + f 9 % 4
def qPr (f : Nat → Int) : List (List T3) × Nat := rdPs f (nPr f) (nLe f) (nPr f).toNat 10
/-- The configuration of a stream of bytes. -/
def decC (f : Nat → Int) : Cfg :=
  { wo := 1 + f 0 % 4, le := nLe f, cl := 1 + f 2 % min 3 (nLe f), ta := 1 + f 3 % 12, de := nDe f, he := 1 + f 5 % 4, ba := 1 + f 6 % nDe f, ag := f 7 % 6, pa := 1 + f 8 % 8,
    pr := (qPr f).1, su := rdSs f (nPr f) (nLe f) (f (qPr f).2 % 6).toNat ((qPr f).2 + 1) }

theorem mod4 (z : Int) : 0 ≤ z % 4 ∧ z % 4 < 4 := ⟨Int.emod_nonneg _ (by omega), Int.emod_lt_of_pos _ (by omega)⟩
theorem modk (z : Int) {k : Int} (h : 1 ≤ k) : 0 ≤ z % k ∧ z % k < k := ⟨Int.emod_nonneg _ (by omega), Int.emod_lt_of_pos _ (by omega)⟩
theorem nPr_in (f : Nat → Int) : 1 ≤ nPr f ∧ nPr f ≤ 4 := by have := mod4 (f 9); unfold nPr; omega
theorem nLe_in (f : Nat → Int) : 1 ≤ nLe f ∧ nLe f ≤ 4 := by have := mod4 (f 1); unfold nLe; omega
theorem nDe_in (f : Nat → Int) : 1 ≤ nDe f ∧ nDe f ≤ 4 := by have := mod4 (f 4); unfold nDe; omega

theorem rdIs_length (f : Nat → Int) (n le : Int) : ∀ k i, (rdIs f n le k i).1.length = k
  | 0, _ => rfl
  | k + 1, i => by simp [rdIs, rdIs_length f n le k i]
theorem rdPs_length (f : Nat → Int) (n le : Int) : ∀ k i, (rdPs f n le k i).1.length = k
  | 0, _ => rfl
  | k + 1, i => by simp [rdPs, rdPs_length f n le k i]
theorem rdSs_length (f : Nat → Int) (n le : Int) : ∀ k i, (rdSs f n le k i).length = k
  | 0, _ => rfl
  | k + 1, i => by simp [rdSs, rdSs_length f n le k i]
theorem rdI_pos (f : Nat → Int) (n le : Int) (i : Nat) : i ≤ (rdI f n le i).2 ∧ (rdI f n le i).2 ≤ i + 3 := by
  unfold rdI
  split
  · exact ⟨by simp, by simp⟩
  · split
    · exact ⟨by simp, by simp⟩
    · exact ⟨by simp, by simp⟩
theorem rdIs_pos (f : Nat → Int) (n le : Int) : ∀ k i, i ≤ (rdIs f n le k i).2 ∧ (rdIs f n le k i).2 ≤ i + 3 * k
  | 0, i => by simp [rdIs]
  | k + 1, i => by
    have h1 := rdIs_pos f n le k i
    have h2 := rdI_pos f n le (rdIs f n le k i).2
    simp only [rdIs]
    omega
theorem rdP_pos (f : Nat → Int) (n le : Int) (i : Nat) : i ≤ (rdP f n le i).2 ∧ (rdP f n le i).2 ≤ i + 16 := by
  have h1 := rdIs_pos f n le (f i % 6).toNat (i + 1)
  have h2 := modk (f i) (k := 6) (by omega)
  unfold rdP
  omega
theorem rdPs_pos (f : Nat → Int) (n le : Int) : ∀ k i, i ≤ (rdPs f n le k i).2 ∧ (rdPs f n le k i).2 ≤ i + 16 * k
  | 0, i => by simp [rdPs]
  | k + 1, i => by
    have h1 := rdPs_pos f n le k i
    have h2 := rdP_pos f n le (rdPs f n le k i).2
    simp only [rdPs]
    omega
theorem rdP_length (f : Nat → Int) (n le : Int) (i : Nat) : (rdP f n le i).1.length ≤ 5 := by
  have h2 := modk (f i) (k := 6) (by omega)
  unfold rdP
  rw [rdIs_length]
  omega

/-- The numbers of an instruction, each with what it must be below. -/
def puI (n le : Int) (x : T3) : List (Int × Int) :=
  if x.1 = 0 then [(x.1, 3), (x.2.1 - 1, 4)] else if x.1 = 1 then [(x.1, 3), (x.2.1, n), (x.2.2, le)] else [(x.1, 3), (x.2.1, 4)]
def puP (n le : Int) (p : List T3) : List (Int × Int) := ((p.length : Int), 6) :: p.flatMap (puI n le)
def puS (n le : Int) (s : T3) : List (Int × Int) := [(s.1, n), (s.2.1, le), (s.2.2, 16)]
def puN (c : Cfg) : List (Int × Int) :=
  [(c.wo - 1, 4), (c.le - 1, 4), (c.cl - 1, min 3 c.le), (c.ta - 1, 12), (c.de - 1, 4), (c.he - 1, 4), (c.ba - 1, c.de), (c.ag, 6), (c.pa - 1, 8)]
def puts (c : Cfg) : List (Int × Int) :=
  puN c ++ [((c.pr.length : Int) - 1, 4)] ++ c.pr.flatMap (puP c.pr.length c.le) ++ [((c.su.length : Int), 6)] ++ c.su.flatMap (puS c.pr.length c.le)

/-- From place i on, the stream reads as the numbers. -/
def reads (f : Nat → Int) : Nat → List (Int × Int) → Prop
  | _, [] => True
  | i, e :: r => (0 ≤ e.1 ∧ e.1 < e.2 ∧ f i % e.2 = e.1) ∧ reads f (i + 1) r
theorem reads_append (f : Nat → Int) : ∀ (a b : List (Int × Int)) (i : Nat), reads f i (a ++ b) ↔ reads f i a ∧ reads f (i + a.length) b
  | [], b, i => by simp [reads]
  | e :: r, b, i => by
    have := reads_append f r b (i + 1)
    simp only [List.cons_append, reads, this, List.length_cons]
    rw [show i + 1 + r.length = i + (r.length + 1) by omega]
    simp only [and_assoc]
theorem reads_at {f : Nat → Int} : ∀ {l : List (Int × Int)} {i : Nat}, reads f i l → ∀ t e, l[t]? = some e → 0 ≤ e.1 ∧ e.1 < e.2 ∧ f (i + t) % e.2 = e.1
  | [], _, _, t, e, he => by cases he
  | x :: r, i, h, 0, e, he => by
    cases he
    exact h.1
  | x :: r, i, h, t + 1, e, he => by
    have := reads_at h.2 t e he
    rwa [show i + 1 + t = i + (t + 1) by omega] at this
theorem reads_of {f : Nat → Int} : ∀ {l : List (Int × Int)} {i : Nat}, (∀ t e, l[t]? = some e → 0 ≤ e.1 ∧ e.1 < e.2 ∧ f (i + t) % e.2 = e.1) → reads f i l
  | [], _, _ => trivial
  | x :: r, i, h => ⟨h 0 x rfl, reads_of fun t e he => by
      have := h (t + 1) e he
      rwa [show i + (t + 1) = i + 1 + t by omega] at this⟩
theorem flat_snoc {α β : Type} (g : α → List β) (l : List α) (x : α) : (l ++ [x]).flatMap g = l.flatMap g ++ g x := by simp
theorem snoc_ind {α : Type} {P : List α → Prop} (h0 : P []) (hs : ∀ l x, P l → P (l ++ [x])) (l : List α) : P l := by
  have : ∀ m : List α, P m.reverse := by
    intro m
    induction m with
    | nil => exact h0
    | cons x r ih => rw [List.reverse_cons]; exact hs _ _ ih
  simpa using this l.reverse

/-- What was read is what an encoding of it writes. -/
theorem reads_rdI (f : Nat → Int) {n le : Int} (hn : 1 ≤ n) (hl : 1 ≤ le) (i : Nat) : reads f i (puI n le (rdI f n le i).1) ∧ (rdI f n le i).2 = i + (puI n le (rdI f n le i).1).length := by
  have h3 := modk (f i) (k := 3) (by omega)
  have h4 := mod4 (f (i + 1))
  have hn' := modk (f (i + 1)) hn
  have hl' := modk (f (i + 2)) hl
  have e0 : rdI f n le i = if f i % 3 = 0 then ((0, 1 + f (i + 1) % 4, 0), i + 2) else if f i % 3 = 1 then ((1, f (i + 1) % n, f (i + 2) % le), i + 3) else ((2, f (i + 1) % 4, 0), i + 2) := rfl
  by_cases h0 : f i % 3 = 0
  · rw [if_pos h0] at e0
    rw [e0]
    have e1 : puI n le (0, 1 + f (i + 1) % 4, 0) = [(0, 3), (1 + f (i + 1) % 4 - 1, 4)] := rfl
    dsimp only
    rw [e1]
    exact ⟨⟨⟨Int.le_refl _, by dsimp only; omega, h0⟩, ⟨by dsimp only; omega, by dsimp only; omega, by dsimp only; omega⟩, trivial⟩, rfl⟩
  · rw [if_neg h0] at e0
    by_cases h1 : f i % 3 = 1
    · rw [if_pos h1] at e0
      rw [e0]
      have e1 : puI n le (1, f (i + 1) % n, f (i + 2) % le) = [(1, 3), (f (i + 1) % n, n), (f (i + 2) % le, le)] := rfl
      dsimp only
      rw [e1]
      exact ⟨⟨⟨by dsimp only; omega, by dsimp only; omega, h1⟩, ⟨hn'.1, hn'.2, rfl⟩, ⟨hl'.1, hl'.2, rfl⟩, trivial⟩, rfl⟩
    · rw [if_neg h1] at e0
      rw [e0]
      have e1 : puI n le (2, f (i + 1) % 4, 0) = [(2, 3), (f (i + 1) % 4, 4)] := rfl
      dsimp only
      rw [e1]
      exact ⟨⟨⟨by dsimp only; omega, by dsimp only; omega, by dsimp only; omega⟩, ⟨h4.1, h4.2, rfl⟩, trivial⟩, rfl⟩
theorem reads_rdIs (f : Nat → Int) {n le : Int} (hn : 1 ≤ n) (hl : 1 ≤ le) : ∀ k i, reads f i ((rdIs f n le k i).1.flatMap (puI n le)) ∧ (rdIs f n le k i).2 = i + ((rdIs f n le k i).1.flatMap (puI n le)).length
  | 0, i => by simp [rdIs, reads]
  | k + 1, i => by
    obtain ⟨h1, h2⟩ := reads_rdIs f hn hl k i
    obtain ⟨h3, h4⟩ := reads_rdI f hn hl (rdIs f n le k i).2
    simp only [rdIs, flat_snoc, List.length_append]
    refine ⟨(reads_append _ _ _ _).2 ⟨h1, ?_⟩, by omega⟩
    rw [← h2]
    exact h3
theorem reads_rdP (f : Nat → Int) {n le : Int} (hn : 1 ≤ n) (hl : 1 ≤ le) (i : Nat) : reads f i (puP n le (rdP f n le i).1) ∧ (rdP f n le i).2 = i + (puP n le (rdP f n le i).1).length := by
  obtain ⟨h1, h2⟩ := reads_rdIs f hn hl (f i % 6).toNat (i + 1)
  have h6 := modk (f i) (k := 6) (by omega)
  unfold rdP puP
  simp only [reads, List.length_cons, rdIs_length]
  exact ⟨⟨⟨by omega, by omega, by omega⟩, h1⟩, by omega⟩
theorem reads_rdPs (f : Nat → Int) {n le : Int} (hn : 1 ≤ n) (hl : 1 ≤ le) : ∀ k i, reads f i ((rdPs f n le k i).1.flatMap (puP n le)) ∧ (rdPs f n le k i).2 = i + ((rdPs f n le k i).1.flatMap (puP n le)).length
  | 0, i => by simp [rdPs, reads]
  | k + 1, i => by
    obtain ⟨h1, h2⟩ := reads_rdPs f hn hl k i
    obtain ⟨h3, h4⟩ := reads_rdP f hn hl (rdPs f n le k i).2
    simp only [rdPs, flat_snoc, List.length_append]
    refine ⟨(reads_append _ _ _ _).2 ⟨h1, ?_⟩, by omega⟩
    rw [← h2]
    exact h3
theorem reads_rdSs (f : Nat → Int) {n le : Int} (hn : 1 ≤ n) (hl : 1 ≤ le) : ∀ k i, reads f i ((rdSs f n le k i).flatMap (puS n le)) ∧ ((rdSs f n le k i).flatMap (puS n le)).length = 3 * k
  | 0, i => by simp [rdSs, reads]
  | k + 1, i => by
    obtain ⟨h1, h2⟩ := reads_rdSs f hn hl k i
    have a1 := modk (f (i + 3 * k)) hn
    have a2 := modk (f (i + 3 * k + 1)) hl
    have a3 := modk (f (i + 3 * k + 2)) (k := 16) (by omega)
    simp only [rdSs, flat_snoc, List.length_append]
    refine ⟨(reads_append _ _ _ _).2 ⟨h1, ?_⟩, by rw [h2]; simp [puS]; omega⟩
    rw [h2]
    simp only [puS, reads, rdS]
    exact ⟨⟨a1.1, a1.2, trivial⟩, ⟨a2.1, a2.2, trivial⟩, ⟨a3.1, a3.2, trivial⟩, trivial⟩
theorem min3_in {le : Int} (h : 1 ≤ le) : 1 ≤ min 3 le ∧ min 3 le ≤ 3 := by omega
theorem dec_pr (f : Nat → Int) : ((decC f).pr.length : Int) = nPr f := by
  have := nPr_in f
  show (((rdPs f (nPr f) (nLe f) (nPr f).toNat 10).1.length : Nat) : Int) = nPr f
  rw [rdPs_length]
  omega
/-- Each number that was read is the one that an encoding of the configuration writes. -/
theorem reads_dec (f : Nat → Int) : reads f 0 (puts (decC f)) := by
  have hn := nPr_in f
  have hl := nLe_in f
  have hd := nDe_in f
  have hp := dec_pr f
  obtain ⟨h1, h2⟩ := reads_rdPs f hn.1 hl.1 (nPr f).toNat 10
  obtain ⟨h3, h4⟩ := reads_rdSs f hn.1 hl.1 (f (qPr f).2 % 6).toNat ((qPr f).2 + 1)
  have h6 := modk (f (qPr f).2) (k := 6) (by omega)
  unfold puts
  rw [hp]
  have e0 : (decC f).le = nLe f := rfl
  have e1 : (decC f).pr = (rdPs f (nPr f) (nLe f) (nPr f).toNat 10).1 := rfl
  have e2 : (decC f).su = rdSs f (nPr f) (nLe f) (f (qPr f).2 % 6).toNat ((qPr f).2 + 1) := rfl
  rw [e0, e1, e2, rdSs_length]
  have e3 : (qPr f).2 = 10 + ((rdPs f (nPr f) (nLe f) (nPr f).toNat 10).1.flatMap (puP (nPr f) (nLe f))).length := h2
  have hN : reads f 0 (puN (decC f)) := by
    have m0 := mod4 (f 0)
    have m2 := modk (f 2) (min3_in hl.1).1
    have m3 := modk (f 3) (k := 12) (by omega)
    have m5 := mod4 (f 5)
    have m6 := modk (f 6) hd.1
    have m7 := modk (f 7) (k := 6) (by omega)
    have m8 := modk (f 8) (k := 8) (by omega)
    unfold puN
    simp only [reads, decC, Nat.zero_add, Nat.reduceAdd]
    have hle : nLe f = 1 + f 1 % 4 := rfl
    have hde : nDe f = 1 + f 4 % 4 := rfl
    have l4 := mod4 (f 1)
    have d4 := mod4 (f 4)
    refine ⟨⟨?_, ?_, ?_⟩, ⟨?_, ?_, ?_⟩, ⟨?_, ?_, ?_⟩, ⟨?_, ?_, ?_⟩, ⟨?_, ?_, ?_⟩, ⟨?_, ?_, ?_⟩, ⟨?_, ?_, ?_⟩, ⟨?_, ?_, ?_⟩, ⟨?_, ?_, ?_⟩, trivial⟩
    all_goals first | omega | skip
    trivial
  have hpr : nPr f = 1 + f 9 % 4 := rfl
  refine (reads_append _ _ _ _).2 ⟨(reads_append _ _ _ _).2 ⟨(reads_append _ _ _ _).2 ⟨(reads_append _ _ _ _).2 ⟨hN, ?_⟩, ?_⟩, ?_⟩, ?_⟩
  · have l4 := mod4 (f 9)
    simp only [reads, puN, List.length_cons, List.length_nil, Nat.zero_add, Nat.reduceAdd]
    exact ⟨⟨by omega, by omega, by omega⟩, trivial⟩
  · simpa [puN] using h1
  · simp only [List.length_append, reads]
    rw [show 0 + ((puN (decC f)).length + [((nPr f - 1, 4) : Int × Int)].length + (List.flatMap (puP (nPr f) (nLe f)) (rdPs f (nPr f) (nLe f) (nPr f).toNat 10).1).length) = (qPr f).2 by rw [e3]; simp [puN]]
    exact ⟨⟨by omega, by omega, by omega⟩, trivial⟩
  · simp only [List.length_append]
    rw [show 0 + ((puN (decC f)).length + [((nPr f - 1, 4) : Int × Int)].length + (List.flatMap (puP (nPr f) (nLe f)) (rdPs f (nPr f) (nLe f) (nPr f).toNat 10).1).length + [((((f (qPr f).2 % 6).toNat : Int), 6) : Int × Int)].length) = (qPr f).2 + 1 by rw [e3]; simp [puN]]
    exact h3

/-- A stream that reads as the numbers of a configuration is decoded as it. -/
def insW (x : T3) : Prop := (x.1 = 1 ∨ x.2.2 = 0)
theorem rdI_of {f : Nat → Int} {n le : Int} {i : Nat} {x : T3} (hx : insW x) (h : reads f i (puI n le x)) : rdI f n le i = (x, i + (puI n le x).length) := by
  obtain ⟨o, a, b⟩ := x
  unfold puI at h ⊢
  unfold insW at hx
  simp only at h hx ⊢
  by_cases h0 : o = 0
  · subst h0
    simp only [if_pos, reads] at h ⊢
    obtain ⟨⟨_, _, q⟩, ⟨_, _, r⟩, _⟩ := h
    unfold rdI
    rw [if_pos q]
    have : b = 0 := by omega
    subst this
    rw [r]
    simp only [List.length_cons, List.length_nil, Prod.mk.injEq, true_and, and_true]
    omega
  · by_cases h1 : o = 1
    · subst h1
      simp only [if_pos, if_neg h0, reads] at h ⊢
      obtain ⟨⟨_, _, q⟩, ⟨_, _, r⟩, ⟨_, _, s⟩, _⟩ := h
      unfold rdI
      rw [if_neg (by omega), if_pos q, r, s]
      rfl
    · simp only [if_neg h0, if_neg h1, reads] at h ⊢
      obtain ⟨⟨_, _, q⟩, ⟨_, _, r⟩, _⟩ := h
      unfold rdI
      rw [if_neg (by omega), if_neg (by omega), r]
      have : b = 0 := by omega
      subst this
      have : o = 2 := by omega
      subst this
      rfl
theorem rdIs_of {f : Nat → Int} {n le : Int} {i : Nat} : ∀ {l : List T3}, (∀ x ∈ l, insW x) → reads f i (l.flatMap (puI n le)) → rdIs f n le l.length i = (l, i + (l.flatMap (puI n le)).length) := by
  intro l
  refine snoc_ind (P := fun l => (∀ x ∈ l, insW x) → reads f i (l.flatMap (puI n le)) → rdIs f n le l.length i = (l, i + (l.flatMap (puI n le)).length)) (fun _ _ => rfl) (fun l x ih hx h => ?_) l
  rw [flat_snoc] at h ⊢
  obtain ⟨h1, h2⟩ := (reads_append _ _ _ _).1 h
  have e := ih (fun y hy => hx y (by simp [hy])) h1
  have e2 := rdI_of (hx x (by simp)) h2
  rw [List.length_append, List.length_singleton]
  simp only [rdIs, e, e2, List.length_append, Prod.mk.injEq, true_and]
  omega
theorem rdP_of {f : Nat → Int} {n le : Int} {i : Nat} {p : List T3} (hx : ∀ x ∈ p, insW x) (h : reads f i (puP n le p)) : rdP f n le i = (p, i + (puP n le p).length) := by
  unfold puP at h ⊢
  obtain ⟨⟨_, _, q⟩, h2⟩ := h
  have e := rdIs_of hx h2
  have q' : (f i % 6).toNat = p.length := by
    simp only at q
    omega
  unfold rdP
  rw [q', e]
  simp only [List.length_cons, Prod.mk.injEq, true_and]
  omega
theorem rdPs_of {f : Nat → Int} {n le : Int} {i : Nat} : ∀ {l : List (List T3)}, (∀ p ∈ l, ∀ x ∈ p, insW x) → reads f i (l.flatMap (puP n le)) → rdPs f n le l.length i = (l, i + (l.flatMap (puP n le)).length) := by
  intro l
  refine snoc_ind (P := fun l => (∀ p ∈ l, ∀ x ∈ p, insW x) → reads f i (l.flatMap (puP n le)) → rdPs f n le l.length i = (l, i + (l.flatMap (puP n le)).length)) (fun _ _ => rfl) (fun l x ih hx h => ?_) l
  rw [flat_snoc] at h ⊢
  obtain ⟨h1, h2⟩ := (reads_append _ _ _ _).1 h
  have e := ih (fun y hy => hx y (by simp [hy])) h1
  have e2 := rdP_of (hx x (by simp)) h2
  rw [List.length_append, List.length_singleton]
  simp only [rdPs, e, e2, List.length_append, Prod.mk.injEq, true_and]
  omega
theorem rdSs_of {f : Nat → Int} {n le : Int} {i : Nat} : ∀ {l : List T3}, reads f i (l.flatMap (puS n le)) → rdSs f n le l.length i = l ∧ (l.flatMap (puS n le)).length = 3 * l.length := by
  intro l
  refine snoc_ind (P := fun l => reads f i (l.flatMap (puS n le)) → rdSs f n le l.length i = l ∧ (l.flatMap (puS n le)).length = 3 * l.length) (fun _ => ⟨rfl, rfl⟩) (fun l x ih h => ?_) l
  rw [flat_snoc] at h ⊢
  obtain ⟨h1, h2⟩ := (reads_append _ _ _ _).1 h
  obtain ⟨e, e'⟩ := ih h1
  rw [e'] at h2
  obtain ⟨⟨_, _, q⟩, ⟨_, _, r⟩, ⟨_, _, s⟩, _⟩ := h2
  rw [List.length_append, List.length_singleton, List.length_append, e']
  simp only at q r s
  refine ⟨?_, by simp [puS]; omega⟩
  simp only [rdSs, e, rdS, q, r, s]
theorem dec_of {f : Nat → Int} {c : Cfg} (hx : ∀ p ∈ c.pr, ∀ x ∈ p, insW x) (h : reads f 0 (puts c)) : decC f = c := by
  obtain ⟨wo, le, cl, ta, de, he, ba, ag, pa, pr, su⟩ := c
  unfold puts at h
  obtain ⟨h, hS⟩ := (reads_append _ _ _ _).1 h
  obtain ⟨h, hM⟩ := (reads_append _ _ _ _).1 h
  obtain ⟨h, hP⟩ := (reads_append _ _ _ _).1 h
  obtain ⟨h, hN⟩ := (reads_append _ _ _ _).1 h
  simp only [puN, reads, List.length_cons, List.length_nil, List.length_append] at h hN hP hM hS
  simp only [Nat.zero_add, Nat.reduceAdd] at h hN hP hM hS
  obtain ⟨⟨_, _, n0⟩, ⟨_, _, n1⟩, ⟨_, _, n2⟩, ⟨_, _, n3⟩, ⟨_, _, n4⟩, ⟨_, _, n5⟩, ⟨_, _, n6⟩, ⟨_, _, n7⟩, ⟨_, _, n8⟩, _⟩ := h
  obtain ⟨⟨_, _, n9⟩, _⟩ := hN
  have eL : nLe f = le := by unfold nLe; omega
  have eD : nDe f = de := by unfold nDe; omega
  have eP : nPr f = pr.length := by unfold nPr; omega
  have hq := rdPs_of hx hP
  have eQ : qPr f = (pr, 10 + (pr.flatMap (puP pr.length le)).length) := by
    unfold qPr
    rw [eL, eP, Int.toNat_natCast]
    exact hq
  obtain ⟨⟨_, _, m⟩, _⟩ := hM
  have eM : (f (qPr f).2 % 6).toNat = su.length := by
    rw [eQ]
    simp only
    omega
  have hs := (rdSs_of hS).1
  unfold decC
  rw [eL, eD, eP, eM, eQ]
  simp only [Cfg.mk.injEq]
  refine ⟨by omega, trivial, by omega, by omega, trivial, by omega, by omega, by omega, by omega, trivial, ?_⟩
  exact hs

/-- A configuration's numbers are all in their ranges. -/
def fits (c : Cfg) : Bool := (puts c).all fun e => decide (0 ≤ e.1) && decide (e.1 < e.2)
theorem fits_iff {c : Cfg} : fits c = true ↔ ∀ (t : Nat) (e : Int × Int), (puts c)[t]? = some e → 0 ≤ e.1 ∧ e.1 < e.2 := by
  unfold fits
  rw [List.all_eq_true]
  constructor
  · intro h t e he
    have := h e (List.mem_of_getElem? he)
    simpa using this
  · intro h e he
    obtain ⟨t, ht⟩ := List.getElem?_of_mem he
    have := h t e ht
    simpa using this
theorem fits_dec (f : Nat → Int) : fits (decC f) = true := fits_iff.2 fun t e he => by
  have := reads_at (reads_dec f) t e he
  exact ⟨this.1, this.2.1⟩

/-- What a check accepts. -/
theorem insB_w {n le : Int} {x : T3} (h : insB n le x = true) : insW x := by
  unfold insB at h
  unfold insW
  by_cases h0 : x.1 = 0
  · rw [if_pos h0] at h
    simp at h
    exact .inr h.2
  · rw [if_neg h0] at h
    by_cases h1 : x.1 = 1
    · exact .inl h1
    · rw [if_neg h1] at h
      split at h
      · simp at h
        exact .inr h.2
      · cases h
theorem chkPs_ok {n le : Int} : ∀ {ps : List (List T3)}, chkPs n le ps = 0 → ∀ p ∈ ps, p.length ≤ 32 ∧ ∀ x ∈ p, insB n le x = true
  | [], _, p, hp => by cases hp
  | q :: r, h, p, hp => by
    unfold chkPs at h
    by_cases h1 : 32 < q.length
    · rw [if_pos h1] at h
      omega
    · rw [if_neg h1] at h
      by_cases h2 : q.all (insB n le) = true
      · rw [if_pos h2] at h
        rcases List.mem_cons.1 hp with rfl | hp
        · exact ⟨by omega, List.all_eq_true.1 h2⟩
        · exact chkPs_ok h p hp
      · rw [if_neg h2] at h
        omega
theorem chk_ok {c : Cfg} (h : chk c = 0) : numsB c = true ∧ inB c.pr.length 1 32 = true ∧ chkPs c.pr.length c.le c.pr = 0 ∧ c.su.length ≤ 64 := by
  unfold chk at h
  by_cases h1 : numsB c = true
  · rw [if_pos h1] at h
    by_cases h2 : progsR c = 0
    · rw [if_pos h2] at h
      unfold progsR at h2
      unfold subsR at h
      by_cases h3 : inB c.pr.length 1 32 = true
      · rw [if_pos h3] at h2
        refine ⟨h1, h3, h2, ?_⟩
        by_cases h4 : 64 < c.su.length
        · rw [if_pos h4] at h
          omega
        · omega
      · rw [if_neg h3] at h2
        omega
    · rw [if_neg h2] at h
      exact absurd h h2
  · rw [if_neg h1] at h
    omega
theorem numsB_iff {c : Cfg} : numsB c = true ↔ (1 ≤ c.wo ∧ c.wo ≤ 16) ∧ (1 ≤ c.le ∧ c.le ≤ 64) ∧ (1 ≤ c.cl ∧ c.cl ≤ min 8 c.le) ∧ (1 ≤ c.ta ∧ c.ta ≤ 256) ∧ (1 ≤ c.de ∧ c.de ≤ 64) ∧ (1 ≤ c.he ∧ c.he ≤ 64) ∧ (1 ≤ c.ba ∧ c.ba ≤ c.de) ∧ (0 ≤ c.ag ∧ c.ag ≤ 65536) ∧ (1 ≤ c.pa ∧ c.pa ≤ 65536) := by
  unfold numsB
  simp only [Bool.and_eq_true, inB_iff, and_assoc]

/-- A decoded configuration is valid. -/
theorem insB_rd (f : Nat → Int) {n le : Int} (hn : 1 ≤ n) (hl : 1 ≤ le) (i : Nat) : insB n le (rdI f n le i).1 = true := by
  have h4 := mod4 (f (i + 1))
  have hn' := modk (f (i + 1)) hn
  have hl' := modk (f (i + 2)) hl
  unfold rdI
  by_cases h0 : f i % 3 = 0
  · rw [if_pos h0]
    have e : insB n le (0, 1 + f (i + 1) % 4, 0) = (inB (1 + f (i + 1) % 4) 1 64 && decide ((0 : Int) = 0)) := rfl
    dsimp only
    rw [e, Bool.and_eq_true, inB_iff]
    exact ⟨by omega, rfl⟩
  · rw [if_neg h0]
    by_cases h1 : f i % 3 = 1
    · rw [if_pos h1]
      have e : insB n le (1, f (i + 1) % n, f (i + 2) % le) = (inB (f (i + 1) % n) 0 (n - 1) && inB (f (i + 2) % le) 0 (le - 1)) := rfl
      dsimp only
      rw [e, Bool.and_eq_true, inB_iff, inB_iff]
      omega
    · rw [if_neg h1]
      have e : insB n le (2, f (i + 1) % 4, 0) = (inB (f (i + 1) % 4) 0 31 && decide ((0 : Int) = 0)) := rfl
      dsimp only
      rw [e, Bool.and_eq_true, inB_iff]
      exact ⟨by omega, rfl⟩
theorem rdIs_ok (f : Nat → Int) {n le : Int} (hn : 1 ≤ n) (hl : 1 ≤ le) : ∀ k i, (rdIs f n le k i).1.all (insB n le) = true
  | 0, _ => rfl
  | k + 1, i => by
    simp only [rdIs, List.all_append, rdIs_ok f hn hl k i, List.all_cons, List.all_nil, insB_rd f hn hl, Bool.and_self]
theorem chkPs_append (n le : Int) : ∀ (a b : List (List T3)), chkPs n le a = 0 → chkPs n le (a ++ b) = chkPs n le b
  | [], b, _ => rfl
  | q :: r, b, h => by
    unfold chkPs at h
    rw [List.cons_append]
    rw [chkPs]
    by_cases h1 : 32 < q.length
    · rw [if_pos h1] at h
      omega
    · rw [if_neg h1] at h ⊢
      by_cases h2 : q.all (insB n le) = true
      · rw [if_pos h2] at h ⊢
        exact chkPs_append n le r b h
      · rw [if_neg h2] at h
        omega
theorem rdPs_ok (f : Nat → Int) {n le : Int} (hn : 1 ≤ n) (hl : 1 ≤ le) : ∀ k i, chkPs n le (rdPs f n le k i).1 = 0
  | 0, _ => rfl
  | k + 1, i => by
    simp only [rdPs]
    rw [chkPs_append n le _ _ (rdPs_ok f hn hl k i)]
    have h5 := rdP_length f n le (rdPs f n le k i).2
    simp only [chkPs]
    rw [if_neg (by omega), if_pos]
    unfold rdP
    exact rdIs_ok f hn hl _ _
theorem chkSs_append (n le : Int) : ∀ (a b : List T3), chkSs n le a = 0 → chkSs n le (a ++ b) = chkSs n le b
  | [], b, _ => rfl
  | q :: r, b, h => by
    unfold chkSs at h
    rw [List.cons_append]
    rw [chkSs]
    by_cases h1 : inB q.1 0 (n - 1) = true
    · rw [if_pos h1] at h ⊢
      by_cases h2 : subOk le q = true
      · rw [if_pos h2] at h ⊢
        exact chkSs_append n le r b h
      · rw [if_neg h2] at h
        omega
    · rw [if_neg h1] at h
      omega
theorem rdSs_ok (f : Nat → Int) {n le : Int} (hn : 1 ≤ n) (hl : 1 ≤ le) : ∀ k i, chkSs n le (rdSs f n le k i) = 0
  | 0, _ => rfl
  | k + 1, i => by
    simp only [rdSs]
    rw [chkSs_append n le _ _ (rdSs_ok f hn hl k i)]
    have a1 := modk (f (i + 3 * k)) hn
    have a2 := modk (f (i + 3 * k + 1)) hl
    have a3 := modk (f (i + 3 * k + 2)) (k := 16) (by omega)
    simp only [chkSs]
    rw [if_pos, if_pos]
    · simp only [subOk, rdS, Bool.and_eq_true, inB_iff]
      omega
    · simp only [rdS, inB_iff]
      omega
theorem chk_dec (f : Nat → Int) : chk (decC f) = 0 := by
  have hn := nPr_in f
  have hl := nLe_in f
  have hd := nDe_in f
  have hp := dec_pr f
  have h6 := modk (f (qPr f).2) (k := 6) (by omega)
  have e0 : (decC f).le = nLe f := rfl
  have e1 : (decC f).pr = (rdPs f (nPr f) (nLe f) (nPr f).toNat 10).1 := rfl
  have e2 : (decC f).su = rdSs f (nPr f) (nLe f) (f (qPr f).2 % 6).toNat ((qPr f).2 + 1) := rfl
  have hN : numsB (decC f) = true := by
    have m0 := mod4 (f 0)
    have m2 := modk (f 2) (min3_in hl.1).1
    have m3 := modk (f 3) (k := 12) (by omega)
    have m5 := mod4 (f 5)
    have m6 := modk (f 6) hd.1
    have m7 := modk (f 7) (k := 6) (by omega)
    have m8 := modk (f 8) (k := 8) (by omega)
    rw [numsB_iff]
    simp only [decC]
    refine ⟨⟨by omega, by omega⟩, ⟨by omega, by omega⟩, ⟨by omega, ?_⟩, ⟨by omega, by omega⟩, ⟨by omega, by omega⟩, ⟨by omega, by omega⟩, ⟨by omega, by omega⟩, ⟨by omega, by omega⟩, ⟨by omega, by omega⟩⟩
    have := m2.2
    omega
  have hP : progsR (decC f) = 0 := by
    unfold progsR
    rw [if_pos (inB_iff.2 (by omega)), hp, e0, e1]
    exact rdPs_ok f hn.1 hl.1 _ _
  have hS : subsR (decC f) = 0 := by
    unfold subsR
    rw [if_neg (by rw [e2, rdSs_length]; omega), hp, e0, e2]
    exact rdSs_ok f hn.1 hl.1 _ _
  unfold chk
  rw [if_pos hN, if_pos hP, hS]
theorem dec_sizes (f : Nat → Int) : 1 ≤ (decC f).pr.length ∧ (decC f).pr.length ≤ 4 ∧ (decC f).su.length ≤ 5 := by
  have hn := nPr_in f
  have hp := dec_pr f
  have h6 := modk (f (qPr f).2) (k := 6) (by omega)
  have e2 : (decC f).su = rdSs f (nPr f) (nLe f) (f (qPr f).2 % 6).toNat ((qPr f).2 + 1) := rfl
  rw [e2, rdSs_length]
  omega
theorem rdPs_each (f : Nat → Int) (n le : Int) : ∀ k i, ∀ p ∈ (rdPs f n le k i).1, p.length ≤ 5
  | 0, _, p, hp => by cases hp
  | k + 1, i, p, hp => by
    simp only [rdPs, List.mem_append, List.mem_singleton] at hp
    rcases hp with hp | rfl
    · exact rdPs_each f n le k i p hp
    · exact rdP_length f n le _
theorem dec_each (f : Nat → Int) : ∀ p ∈ (decC f).pr, p.length ≤ 5 := rdPs_each f _ _ _ _

/-- All moduli are small. -/
theorem insB_in {n le : Int} {x : T3} (h : insB n le x = true) : 0 ≤ x.1 ∧ x.1 ≤ 2 := by
  unfold insB at h
  by_cases h0 : x.1 = 0
  · omega
  · rw [if_neg h0] at h
    by_cases h1 : x.1 = 1
    · omega
    · rw [if_neg h1] at h
      split at h
      · omega
      · cases h
theorem small_puts {c : Cfg} (h : chk c = 0) : ∀ e ∈ puts c, e.2 ≤ 64 := by
  obtain ⟨h1, h2, _, _⟩ := chk_ok h
  have hn := inB_iff.1 h2
  rw [numsB_iff] at h1
  intro e he
  unfold puts at he
  simp only [List.mem_append, List.mem_singleton, List.mem_flatMap, or_assoc] at he
  rcases he with he | rfl | ⟨p, _, he⟩ | rfl | ⟨s, _, he⟩
  · simp only [puN, List.mem_cons, List.not_mem_nil, or_false] at he
    rcases he with rfl | rfl | rfl | rfl | rfl | rfl | rfl | rfl | rfl <;> simp only <;> omega
  · simp
  · simp only [puP, List.mem_cons, List.mem_flatMap] at he
    rcases he with rfl | ⟨x, _, he⟩
    · simp
    · unfold puI at he
      split at he
      · simp only [List.mem_cons, List.not_mem_nil, or_false] at he
        rcases he with rfl | rfl <;> simp only <;> omega
      · split at he
        · simp only [List.mem_cons, List.not_mem_nil, or_false] at he
          rcases he with rfl | rfl | rfl <;> simp only <;> omega
        · simp only [List.mem_cons, List.not_mem_nil, or_false] at he
          rcases he with rfl | rfl <;> simp only <;> omega
  · simp
  · simp only [puS, List.mem_cons, List.not_mem_nil, or_false] at he
    rcases he with rfl | rfl | rfl <;> simp only <;> omega

/-- A list without the zeros at its end. -/
def Trimmed (l t : List Int) : Prop := ∃ k, k ≤ l.length ∧ t = l.take k ∧ (∀ j, k ≤ j → l.getD j 0 = 0) ∧ (k = 0 ∨ l.getD (k - 1) 0 ≠ 0)
theorem Trimmed.same {l t t' : List Int} (h : Trimmed l t) (h' : Trimmed l t') : t = t' := by
  obtain ⟨k, hk, rfl, hz, hn⟩ := h
  obtain ⟨k', hk', rfl, hz', hn'⟩ := h'
  have : k = k' := by
    rcases Nat.lt_trichotomy k k' with h | h | h
    · rcases hn' with h0 | h0
      · omega
      · exact absurd (hz (k' - 1) (by omega)) h0
    · exact h
    · rcases hn with h0 | h0
      · omega
      · exact absurd (hz' (k - 1) (by omega)) h0
  rw [this]
theorem strm_take {l : List Int} {k : Nat} (hz : ∀ j, k ≤ j → l.getD j 0 = 0) : strm (l.take k) = strm l := by
  funext j
  unfold strm
  by_cases hj : j < k
  · rw [List.getD_eq_getElem?_getD, List.getD_eq_getElem?_getD, List.getElem?_take, if_pos hj]
  · rw [hz j (by omega), List.getD_eq_getElem?_getD, List.getElem?_take, if_neg hj]
    rfl
theorem Trimmed.strm {l t : List Int} (h : Trimmed l t) : strm t = strm l := by
  obtain ⟨k, _, rfl, hz, _⟩ := h
  exact strm_take hz
theorem Trimmed.last {l t : List Int} (h : Trimmed l t) : t = [] ∨ t.getD (t.length - 1) 0 ≠ 0 := by
  obtain ⟨k, hk, rfl, hz, hn⟩ := h
  rcases hn with rfl | hn
  · exact .inl (by simp)
  · by_cases h0 : k = 0
    · subst h0
      exact .inl (by simp)
    · refine .inr ?_
      rw [List.length_take, Nat.min_eq_left hk, List.getD_eq_getElem?_getD, List.getElem?_take, if_pos (by omega), ← List.getD_eq_getElem?_getD]
      exact hn
theorem Trimmed.length {l t : List Int} (h : Trimmed l t) : t.length ≤ l.length := by
  obtain ⟨k, hk, rfl, _, _⟩ := h
  rw [List.length_take]
  exact Nat.min_le_right _ _

/-- The numbers that are written. -/
def vals (c : Cfg) : List Int := (puts c).map (·.1)
/-- The same, as bytes. -/
def byts (c : Cfg) : List Int := (puts c).map fun e => e.1 % 256
theorem byts_fit {c : Cfg} (h : chk c = 0) (hf : fits c = true) : byts c = vals c := by
  unfold byts vals
  apply List.map_congr_left
  intro e he
  obtain ⟨t, ht⟩ := List.getElem?_of_mem he
  have h1 := fits_iff.1 hf t e ht
  have h2 := small_puts h e he
  exact Int.emod_eq_of_lt h1.1 (by omega)
theorem vals_at {c : Cfg} {t : Nat} {e : Int × Int} (h : (puts c)[t]? = some e) : strm (vals c) t = e.1 := by
  unfold strm vals
  rw [List.getD_eq_getElem?_getD, List.getElem?_map, h]
  rfl
/-- What an encoding writes is decoded as the configuration. -/
theorem dec_vals {c : Cfg} (h : chk c = 0) (hf : fits c = true) : decC (strm (vals c)) = c := by
  refine dec_of (fun p hp x hx => insB_w ((chkPs_ok (chk_ok h).2.2.1 p hp).2 x hx)) (reads_of fun t e he => ?_)
  have h1 := fits_iff.1 hf t e he
  refine ⟨h1.1, h1.2, ?_⟩
  rw [Nat.zero_add, vals_at he]
  exact Int.emod_eq_of_lt h1.1 h1.2
/-- The program's test: the bytes are decoded as the configuration exactly if its numbers fit. -/
theorem dec_iff {c : Cfg} (h : chk c = 0) {t : List Int} (ht : Trimmed (byts c) t) : decC (strm t) = c ↔ fits c = true := by
  constructor
  · intro e
    rw [← e]
    exact fits_dec _
  · intro hf
    rw [ht.strm, byts_fit h hf]
    exact dec_vals h hf
/-- No shorter beginning of the bytes is decoded as the configuration. -/
theorem dec_short {c : Cfg} {t : List Int} (ht : Trimmed (vals c) t) (n : Nat) (hn : n < t.length) : decC (strm (t.take n)) ≠ c := by
  intro e
  have hR := reads_dec (strm (t.take n))
  rw [e] at hR
  have hl := ht.length
  have hlen : (vals c).length = (puts c).length := by simp [vals]
  have hj : t.length - 1 < (puts c).length := by omega
  have he := List.getElem?_eq_getElem hj
  have h1 := reads_at hR _ _ he
  have h2 := vals_at he
  rw [← ht.strm] at h2
  have h3 : strm (t.take n) (0 + (t.length - 1)) = 0 := by
    unfold strm
    rw [List.getD_eq_getElem?_getD, List.getElem?_take, if_neg (by omega)]
    rfl
  rw [h3] at h1
  have h4 := h1.2.2
  rw [Int.zero_emod] at h4
  rcases ht.last with h0 | h0
  · rw [h0] at hn
    simp at hn
  · apply h0
    show strm t (t.length - 1) = 0
    rw [h2]
    exact h4.symm
end Go.Proofs.YtgipddeldddbnaaGreat
