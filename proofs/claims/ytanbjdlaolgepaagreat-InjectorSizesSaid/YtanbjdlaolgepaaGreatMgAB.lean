/-
  Plain mathematics of configurations: the numbers that a decoding reads, the errors of a check, the numbers that an encoding writes.
  Words for opening a law's arguments, whatever their types.
  Slices of triples, slices of slices of triples and configurations, as the walks are told of them.
-/
import Derived.Test.YtanbjdlaolgepaaGreatRows
import Derived.WalkKit
import Derived.ProofKit
import Derived.OpenShut
import Derived.ShutString
import Derived.ChangeOld
import Derived.Deep.Slices
import Derived.Deep.Fields
import Derived.Test.YtanbjdlaolgepaaGreatMgAA
import Derived.WalkSpells
import Derived.WalkLawsBesides
import Derived.Lib.Hide
import Derived.Maps.AppendAt
import Derived.Deep.OwnRows
import Derived.Deep.QuietTactic
import Derived.BigQuiet
import Derived.BigRegion
import Derived.Deep.RegionHeld3
import Derived.Deep.RegionLaw
import Derived.StillTailTactics
namespace Go.Proofs.YtanbjdlaolgepaaGreat
set_option linter.unusedSimpArgs false

abbrev T3 := Int × Int × Int

/-- A configuration: nine numbers, programs, submissions. -/
structure Cfg where
  wo : Int
  le : Int
  cl : Int
  ta : Int
  de : Int
  he : Int
  ba : Int
  ag : Int
  pa : Int
  pr : List (List T3)
  su : List T3
deriving DecidableEq

/-- A number is from a to b. -/
def inB (v a b : Int) : Bool := decide (a ≤ v) && decide (v ≤ b)
attribute [irreducible] inB
theorem inB_iff {v a b : Int} : inB v a b = true ↔ a ≤ v ∧ v ≤ b := by
  unfold inB
  simp
def numsB (c : Cfg) : Bool :=
  inB c.wo 1 16 && inB c.le 1 64 && inB c.cl 1 (min 8 c.le) && inB c.ta 1 256 && inB c.de 1 64 && inB c.he 1 64 && inB c.ba 1 c.de && inB c.ag 0 65536 && inB c.pa 1 65536

/-- An instruction is valid for n programs and le levels. -/
def insB (n le : Int) (x : T3) : Bool :=
  if x.1 = 0 then inB x.2.1 1 64 && decide (x.2.2 = 0)
  else if x.1 = 1 then inB x.2.1 0 (n - 1) && inB x.2.2 0 (le - 1)
  else if x.1 = 2 then inB x.2.1 0 31 && decide (x.2.2 = 0)
  else false

def chkPs (n le : Int) : List (List T3) → Int
  | [] => 0
  | p :: r => if 32 < p.length then 2 else if p.all (insB n le) then chkPs n le r else 1
def subOk (le : Int) (s : T3) : Bool := inB s.2.1 0 (le - 1) && inB s.2.2 0 16777215
def chkSs (n le : Int) : List T3 → Int
  | [] => 0
  | s :: r => if inB s.1 0 (n - 1) then (if subOk le s then chkSs n le r else 1) else 3
def progsR (c : Cfg) : Int := if inB c.pr.length 1 32 then chkPs c.pr.length c.le c.pr else 2
def subsR (c : Cfg) : Int := if 64 < c.su.length then 2 else chkSs c.pr.length c.le c.su
/-- The first error. -/
def chk (c : Cfg) : Int := if numsB c then (if progsR c = 0 then subsR c else progsR c) else 1

theorem chkPs_drop {n le : Int} {ps : List (List T3)} {k : Nat} {p : List T3} (h : ps[k]? = some p) : chkPs n le (ps.drop k) = if 32 < p.length then 2 else if p.all (insB n le) then chkPs n le (ps.drop (k + 1)) else 1 := by
  obtain ⟨hk, he⟩ := List.getElem?_eq_some_iff.1 h
  rw [List.drop_eq_getElem_cons hk, he]
  rfl
theorem chkSs_drop {n le : Int} {ss : List T3} {k : Nat} {s : T3} (h : ss[k]? = some s) : chkSs n le (ss.drop k) = if inB s.1 0 (n - 1) then (if subOk le s then chkSs n le (ss.drop (k + 1)) else 1) else 3 := by
  obtain ⟨hk, he⟩ := List.getElem?_eq_some_iff.1 h
  rw [List.drop_eq_getElem_cons hk, he]
  rfl
theorem all_drop {p : T3 → Bool} {l : List T3} {k : Nat} {x : T3} (h : l[k]? = some x) : (l.drop k).all p = (p x && (l.drop (k + 1)).all p) := by
  obtain ⟨hk, he⟩ := List.getElem?_eq_some_iff.1 h
  rw [List.drop_eq_getElem_cons hk, he]
  rfl
theorem chkPs_in (n le : Int) : ∀ ps, 0 ≤ chkPs n le ps ∧ chkPs n le ps ≤ 3
  | [] => by simp [chkPs]
  | p :: r => by
    have := chkPs_in n le r
    unfold chkPs
    split
    · omega
    · split <;> omega
theorem chkSs_in (n le : Int) : ∀ ss, 0 ≤ chkSs n le ss ∧ chkSs n le ss ≤ 3
  | [] => by simp [chkSs]
  | s :: r => by
    have := chkSs_in n le r
    unfold chkSs
    split
    · split <;> omega
    · omega
theorem chk_in (c : Cfg) : 0 ≤ chk c ∧ chk c ≤ 3 := by
  unfold chk
  split
  · have h1 := chkPs_in c.pr.length c.le c.pr
    have h2 := chkSs_in c.pr.length c.le c.su
    unfold progsR subsR
    split <;> split <;> (try split) <;> omega
  · omega

/-- The byte at a place: 0 behind the last one. -/
def strm (zs : List Int) (i : Nat) : Int := zs.getD i 0

/-- An instruction read from place i on, and the place behind it. -/
def rdI (f : Nat → Int) (n le : Int) (i : Nat) : T3 × Nat :=
  if f i % 3 = 0 then ((0, 1 + f (i + 1) % 4, 0), i + 2)
  else if f i % 3 = 1 then ((1, f (i + 1) % n, f (i + 2) % le), i + 3)
  else ((2, f (i + 1) % 4, 0), i + 2)
def rdIs (f : Nat → Int) (n le : Int) : Nat → Nat → List T3 × Nat
  | 0, i => ([], i)
  | k + 1, i => ((rdIs f n le k i).1 ++ [(rdI f n le (rdIs f n le k i).2).1], (rdI f n le (rdIs f n le k i).2).2)
def rdP (f : Nat → Int) (n le : Int) (i : Nat) : List T3 × Nat := rdIs f n le (f i % 6).toNat (i + 1)
def rdPs (f : Nat → Int) (n le : Int) : Nat → Nat → List (List T3) × Nat
  | 0, i => ([], i)
  | k + 1, i => ((rdPs f n le k i).1 ++ [(rdP f n le (rdPs f n le k i).2).1], (rdP f n le (rdPs f n le k i).2).2)
def rdS (f : Nat → Int) (n le : Int) (i : Nat) : T3 := (f i % n, f (i + 1) % le, f (i + 2) % 16)
def rdSs (f : Nat → Int) (n le : Int) : Nat → Nat → List T3
  | 0, _ => []
  | k + 1, i => rdSs f n le k i ++ [rdS f n le (i + 3 * k)]

def nLe (f : Nat → Int) : Int := 1 + f 1 % 4
def nDe (f : Nat → Int) : Int := 1 + f 4 % 4
def nPr (f : Nat → Int) : Int := 1 + f 9 % 4
def qPr (f : Nat → Int) : List (List T3) × Nat := rdPs f (nPr f) (nLe f) (nPr f).toNat 10
/-- The configuration of a stream of bytes. -/
def decC (f : Nat → Int) : Cfg :=
  { wo := 1 + f 0 % 4, le := nLe f, cl := 1 + f 2 % min 3 (nLe f), ta := 1 + f 3 % 12, de := nDe f, he := 1 + f 5 % 4, ba := 1 + f 6 % nDe f, ag := f 7 % 6, pa := 1 + f 8 % 8,
    pr := (qPr f).1, su := rdSs f (nPr f) (nLe f) (f (qPr f).2 % 6).toNat ((qPr f).2 + 1) }

theorem mod4 (z : Int) : 0 ≤ z % 4 ∧ z % 4 < 4 := ⟨Int.emod_nonneg _ (by omega), Int.emod_lt_of_pos _ (by omega)⟩
theorem modk (z : Int) {k : Int} (h : 1 ≤ k) : 0 ≤ z % k ∧ z % k < k := ⟨Int.emod_nonneg _ (by omega), Int.emod_lt_of_pos _ (by omega)⟩
theorem nLe_in (f : Nat → Int) : 1 ≤ nLe f ∧ nLe f ≤ 4 := by have := mod4 (f 1); unfold nLe; omega
theorem nDe_in (f : Nat → Int) : 1 ≤ nDe f ∧ nDe f ≤ 4 := by have := mod4 (f 4); unfold nDe; omega

theorem rdIs_length (f : Nat → Int) (n le : Int) : ∀ k i, (rdIs f n le k i).1.length = k
  | 0, _ => rfl
  | k + 1, i => by simp [rdIs, rdIs_length f n le k i]
theorem rdPs_length (f : Nat → Int) (n le : Int) : ∀ k i, (rdPs f n le k i).1.length = k
  | 0, _ => rfl
  | k + 1, i => by simp [rdPs, rdPs_length f n le k i]
theorem rdSs_length (f : Nat → Int) (n le : Int) : ∀ k i, (rdSs f n le k i).length = k
  | 0, _ => rfl
  | k + 1, i => by simp [rdSs, rdSs_length f n le k i]
theorem rdI_pos (f : Nat → Int) (n le : Int) (i : Nat) : i ≤ (rdI f n le i).2 ∧ (rdI f n le i).2 ≤ i + 3 := by
  unfold rdI
  split
  · exact ⟨by simp, by simp⟩
  · split
    · exact ⟨by simp, by simp⟩
    · exact ⟨by simp, by simp⟩
theorem rdIs_pos (f : Nat → Int) (n le : Int) : ∀ k i, i ≤ (rdIs f n le k i).2 ∧ (rdIs f n le k i).2 ≤ i + 3 * k
  | 0, i => by simp [rdIs]
  | k + 1, i => by
    have h1 := rdIs_pos f n le k i
    have h2 := rdI_pos f n le (rdIs f n le k i).2
    simp only [rdIs]
    omega
theorem rdP_pos (f : Nat → Int) (n le : Int) (i : Nat) : i ≤ (rdP f n le i).2 ∧ (rdP f n le i).2 ≤ i + 16 := by
  have h1 := rdIs_pos f n le (f i % 6).toNat (i + 1)
  have h2 := modk (f i) (k := 6) (by omega)
  unfold rdP
  omega
theorem rdPs_pos (f : Nat → Int) (n le : Int) : ∀ k i, i ≤ (rdPs f n le k i).2 ∧ (rdPs f n le k i).2 ≤ i + 16 * k
  | 0, i => by simp [rdPs]
  | k + 1, i => by
    have h1 := rdPs_pos f n le k i
    have h2 := rdP_pos f n le (rdPs f n le k i).2
    simp only [rdPs]
    omega
/-- From place i on, the stream reads as the numbers. -/
def reads (f : Nat → Int) : Nat → List (Int × Int) → Prop
  | _, [] => True
  | i, e :: r => (0 ≤ e.1 ∧ e.1 < e.2 ∧ f i % e.2 = e.1) ∧ reads f (i + 1) r
theorem reads_append (f : Nat → Int) : ∀ (a b : List (Int × Int)) (i : Nat), reads f i (a ++ b) ↔ reads f i a ∧ reads f (i + a.length) b
  | [], b, i => by simp [reads]
  | e :: r, b, i => by
    have := reads_append f r b (i + 1)
    simp only [List.cons_append, reads, this, List.length_cons]
    rw [show i + 1 + r.length = i + (r.length + 1) by omega]
    simp only [and_assoc]
theorem chkPs_ok {n le : Int} : ∀ {ps : List (List T3)}, chkPs n le ps = 0 → ∀ p ∈ ps, p.length ≤ 32 ∧ ∀ x ∈ p, insB n le x = true
  | [], _, p, hp => by cases hp
  | q :: r, h, p, hp => by
    unfold chkPs at h
    by_cases h1 : 32 < q.length
    · rw [if_pos h1] at h
      omega
    · rw [if_neg h1] at h
      by_cases h2 : q.all (insB n le) = true
      · rw [if_pos h2] at h
        rcases List.mem_cons.1 hp with rfl | hp
        · exact ⟨by omega, List.all_eq_true.1 h2⟩
        · exact chkPs_ok h p hp
      · rw [if_neg h2] at h
        omega
theorem chk_ok {c : Cfg} (h : chk c = 0) : numsB c = true ∧ inB c.pr.length 1 32 = true ∧ chkPs c.pr.length c.le c.pr = 0 ∧ c.su.length ≤ 64 := by
  unfold chk at h
  by_cases h1 : numsB c = true
  · rw [if_pos h1] at h
    by_cases h2 : progsR c = 0
    · rw [if_pos h2] at h
      unfold progsR at h2
      unfold subsR at h
      by_cases h3 : inB c.pr.length 1 32 = true
      · rw [if_pos h3] at h2
        refine ⟨h1, h3, h2, ?_⟩
        by_cases h4 : 64 < c.su.length
        · rw [if_pos h4] at h
          omega
        · omega
      · rw [if_neg h3] at h2
        omega
    · rw [if_neg h2] at h
      exact absurd h h2
  · rw [if_neg h1] at h
    omega
theorem numsB_iff {c : Cfg} : numsB c = true ↔ (1 ≤ c.wo ∧ c.wo ≤ 16) ∧ (1 ≤ c.le ∧ c.le ≤ 64) ∧ (1 ≤ c.cl ∧ c.cl ≤ min 8 c.le) ∧ (1 ≤ c.ta ∧ c.ta ≤ 256) ∧ (1 ≤ c.de ∧ c.de ≤ 64) ∧ (1 ≤ c.he ∧ c.he ≤ 64) ∧ (1 ≤ c.ba ∧ c.ba ≤ c.de) ∧ (0 ≤ c.ag ∧ c.ag ≤ 65536) ∧ (1 ≤ c.pa ∧ c.pa ≤ 65536) := by
  unfold numsB
  simp only [Bool.and_eq_true, inB_iff, and_assoc]

end Go.Proofs.YtanbjdlaolgepaaGreat

namespace Go.Proofs.YtanbjdlaolgepaaGreat
open Go Go.ChangeShapes Go.WideShapes Go.ChangeAt Go.RowKit

theorem ownKnobs : ownKnob Tryz.prog.godebug = none := by kernel_rfl
theorem laidOut : laidOutB Tryz.prog = true := by kernel_rfl

theorem u8_in {a : Int} (h : (Lit.int .u8 a).wf = true) : 0 ≤ a ∧ a ≤ 255 := by
  simp only [Lit.wf, Bool.and_eq_true, decide_eq_true_eq] at h
  have h0 : IntKind.u8.min = 0 := rfl
  have h1 : IntKind.u8.max = 255 := rfl
  rw [h0, h1] at h
  exact h
end Go.Proofs.YtanbjdlaolgepaaGreat

namespace Go.Proofs.YtanbjdlaolgepaaGreat
open Go Go.RowKit

abbrev z3 : T3 := (0, 0, 0)

/-- The slice (a, n) reads as the triples l, in a block from B on. -/
def Tris (w : World) (B : Nat) (a : Option Addr) (n : Nat) (l : List T3) : Prop :=
  l.length = n ∧ n ≤ maxLen ∧ ∀ i, i < n → ∃ x : Addr, a = some x ∧ B ≤ x.block ∧ x.block < w.heap.size ∧ w.cell? (x.add (i * 3)) = some (.int .i64 (l.getD i z3).1) ∧ w.cell? (x.add (i * 3 + 1)) = some (.int .i64 (l.getD i z3).2.1) ∧ w.cell? (x.add (i * 3 + 2)) = some (.int .i64 (l.getD i z3).2.2)

theorem Tris.mono {w : World} {B B' : Nat} {a : Option Addr} {n : Nat} {l : List T3} (h : Tris w B a n l) (hb : B' ≤ B) : Tris w B' a n l :=
  ⟨h.1, h.2.1, fun i hi => by
    obtain ⟨x, e, hB, r⟩ := h.2.2 i hi
    exact ⟨x, e, Nat.le_trans hb hB, r⟩⟩
theorem Tris.below {w w' : World} {B : Nat} {a : Option Addr} {n : Nat} {l : List T3} (h : Tris w B a n l) (hb : Below w.heap.size w w') : Tris w' B a n l :=
  ⟨h.1, h.2.1, fun i hi => by
    obtain ⟨x, e, hB, hx, h0, h1, h2⟩ := h.2.2 i hi
    have hc : ∀ j, w'.cell? (x.add j) = w.cell? (x.add j) := fun j => hb.cell (by rw [block_add]; exact hx)
    exact ⟨x, e, hB, Nat.lt_of_lt_of_le hx hb.size, (hc _).trans h0, (hc _).trans h1, (hc _).trans h2⟩⟩
theorem tris_nil (w : World) (B : Nat) (a : Option Addr) : Tris w B a 0 [] := ⟨rfl, by omega, fun i hi => by omega⟩
theorem Tris.at_ {w : World} {B : Nat} {a : Option Addr} {n : Nat} {l : List T3} (h : Tris w B a n l) {i : Nat} (hi : i < n) :
    ∃ (x : Addr) (o p q : Int), a = some x ∧ l[i]? = some (o, p, q) ∧ B ≤ x.block ∧ x.block < w.heap.size ∧ w.cell? (x.add (i * 3)) = some (.int .i64 o) ∧ w.cell? ⟨(x.add (i * 3)).block, (x.add (i * 3)).off + 1, none⟩ = some (.int .i64 p) ∧ w.cell? ⟨(x.add (i * 3)).block, (x.add (i * 3)).off + 2, none⟩ = some (.int .i64 q) := by
  obtain ⟨x, e, hB, hx, h0, h1, h2⟩ := h.2.2 i hi
  have hl : i < l.length := by rw [h.1]; exact hi
  refine ⟨x, (l.getD i z3).1, (l.getD i z3).2.1, (l.getD i z3).2.2, e, ?_, hB, hx, h0, cell_field (i := i * 3) (j := 0) h1, cell_field (i := i * 3) (j := 1) h2⟩
  rw [List.getD_eq_getElem?_getD, List.getElem?_eq_getElem hl]
  rfl
theorem list_of {α : Type} (d : α) (P : Nat → α → Prop) : ∀ n, (∀ i, i < n → ∃ e, P i e) → ∃ l : List α, l.length = n ∧ ∀ i, i < n → P i (l.getD i d)
  | 0, _ => ⟨[], rfl, fun i hi => by omega⟩
  | n + 1, h => by
    obtain ⟨l, hl, hp⟩ := list_of d P n (fun i hi => h i (by omega))
    obtain ⟨e, he⟩ := h n (by omega)
    refine ⟨l ++ [e], by simp [hl], fun i hi => ?_⟩
    by_cases hin : i < n
    · have e1 : (l ++ [e]).getD i d = l.getD i d := by
        rw [List.getD_eq_getElem?_getD, List.getD_eq_getElem?_getD, List.getElem?_append_left (by omega)]
      rw [e1]
      exact hp i hin
    · obtain rfl : i = n := by omega
      have e1 : (l ++ [e]).getD i d = e := by
        rw [List.getD_eq_getElem?_getD, List.getElem?_append_right (by omega), hl, Nat.sub_self]
        rfl
      rw [e1]
      exact he
/-- The slice (a, n) reads as the programs ps, all in blocks from B on. -/
def Prgs (w : World) (B : Nat) (a : Option Addr) (n : Nat) (ps : List (List T3)) : Prop :=
  ps.length = n ∧ n ≤ maxLen ∧ ∀ i, i < n → ∃ (x : Addr) (b : Option Addr) (m c : Nat), a = some x ∧ B ≤ x.block ∧ x.block < w.heap.size ∧ w.cell? (x.add i) = some (.slice b m c) ∧ Tris w B b m (ps.getD i [])
theorem Prgs.mono {w : World} {B B' : Nat} {a : Option Addr} {n : Nat} {ps : List (List T3)} (h : Prgs w B a n ps) (hb : B' ≤ B) : Prgs w B' a n ps :=
  ⟨h.1, h.2.1, fun i hi => by
    obtain ⟨x, b, m, c, e, hB, hx, h0, ht⟩ := h.2.2 i hi
    exact ⟨x, b, m, c, e, Nat.le_trans hb hB, hx, h0, ht.mono hb⟩⟩
theorem Prgs.below {w w' : World} {B : Nat} {a : Option Addr} {n : Nat} {ps : List (List T3)} (h : Prgs w B a n ps) (hb : Below w.heap.size w w') : Prgs w' B a n ps :=
  ⟨h.1, h.2.1, fun i hi => by
    obtain ⟨x, b, m, c, e, hB, hx, h0, ht⟩ := h.2.2 i hi
    exact ⟨x, b, m, c, e, hB, Nat.lt_of_lt_of_le hx hb.size, (hb.cell (by rw [block_add]; exact hx)).trans h0, ht.below hb⟩⟩
theorem prgs_nil (w : World) (B : Nat) (a : Option Addr) : Prgs w B a 0 [] := ⟨rfl, by omega, fun i hi => by omega⟩
theorem Prgs.at_ {w : World} {B : Nat} {a : Option Addr} {n : Nat} {ps : List (List T3)} (h : Prgs w B a n ps) {i : Nat} (hi : i < n) :
    ∃ (x : Addr) (b : Option Addr) (m c : Nat) (p : List T3), a = some x ∧ ps[i]? = some p ∧ B ≤ x.block ∧ x.block < w.heap.size ∧ w.cell? (x.add i) = some (.slice b m c) ∧ Tris w B b m p := by
  obtain ⟨x, b, m, c, e, hB, hx, h0, ht⟩ := h.2.2 i hi
  have hl : i < ps.length := by rw [h.1]; exact hi
  refine ⟨x, b, m, c, ps.getD i [], e, ?_, hB, hx, h0, ht⟩
  rw [List.getD_eq_getElem?_getD, List.getElem?_eq_getElem hl]
  rfl
/-- The slices (pa, pn) and (sa, sn) read as the lists of c. -/
structure Lists (w : World) (B : Nat) (c : Cfg) (pa : Option Addr) (pn : Nat) (sa : Option Addr) (sn : Nat) : Prop where
  pr : Prgs w B pa pn c.pr
  su : Tris w B sa sn c.su
theorem Lists.mono {w : World} {B B' : Nat} {c : Cfg} {pa sa : Option Addr} {pn sn : Nat} (h : Lists w B c pa pn sa sn) (hb : B' ≤ B) : Lists w B' c pa pn sa sn := ⟨h.pr.mono hb, h.su.mono hb⟩
theorem Lists.below {w w' : World} {B : Nat} {c : Cfg} {pa sa : Option Addr} {pn sn : Nat} (h : Lists w B c pa pn sa sn) (hb : Below w.heap.size w w') : Lists w' B c pa pn sa sn := ⟨h.pr.below hb, h.su.below hb⟩
theorem Lists.alloc {w : World} {B : Nat} {c : Cfg} {pa sa : Option Addr} {pn sn : Nat} (h : Lists w B c pa pn sa sn) (o : Obj) : Lists (w.alloc o) B c pa pn sa sn := h.below (below_one w o)
/-- The value of a configuration. -/
abbrev cv (c : Cfg) (pa : Option Addr) (pn pc : Nat) (sa : Option Addr) (sn sc : Nat) : Value :=
  .agg #[.int .i64 c.wo, .int .i64 c.le, .int .i64 c.cl, .int .i64 c.ta, .int .i64 c.de, .int .i64 c.he, .int .i64 c.ba, .int .i64 c.ag, .int .i64 c.pa, .slice pa pn pc, .slice sa sn sc]
/-- Its cells. -/
abbrev cc (c : Cfg) (pa : Option Addr) (pn pc : Nat) (sa : Option Addr) (sn sc : Nat) : Array Value :=
  #[.int .i64 c.wo, .int .i64 c.le, .int .i64 c.cl, .int .i64 c.ta, .int .i64 c.de, .int .i64 c.he, .int .i64 c.ba, .int .i64 c.ag, .int .i64 c.pa, .slice pa pn pc, .slice sa sn sc]
/-- The eleven cells of a configuration in a block. -/
structure Eleven (w : World) (g : Nat) (c : Cfg) (pa : Option Addr) (pn pc : Nat) (sa : Option Addr) (sn sc : Nat) : Prop where
  c0 : w.cell? ⟨g, 0, none⟩ = some (.int .i64 c.wo)
  c1 : w.cell? ⟨g, 1, none⟩ = some (.int .i64 c.le)
  c2 : w.cell? ⟨g, 2, none⟩ = some (.int .i64 c.cl)
  c3 : w.cell? ⟨g, 3, none⟩ = some (.int .i64 c.ta)
  c4 : w.cell? ⟨g, 4, none⟩ = some (.int .i64 c.de)
  c5 : w.cell? ⟨g, 5, none⟩ = some (.int .i64 c.he)
  c6 : w.cell? ⟨g, 6, none⟩ = some (.int .i64 c.ba)
  c7 : w.cell? ⟨g, 7, none⟩ = some (.int .i64 c.ag)
  c8 : w.cell? ⟨g, 8, none⟩ = some (.int .i64 c.pa)
  c9 : w.cell? ⟨g, 9, none⟩ = some (.slice pa pn pc)
  c10 : w.cell? ⟨g, 10, none⟩ = some (.slice sa sn sc)
theorem eleven {w : World} {g : Nat} {c : Cfg} {pa sa : Option Addr} {pn pc sn sc : Nat} (h : Blk w g 28 (cc c pa pn pc sa sn sc)) : Eleven w g c pa pn pc sa sn sc :=
  ⟨h.at_ 0, h.at_ 1, h.at_ 2, h.at_ 3, h.at_ 4, h.at_ 5, h.at_ 6, h.at_ 7, h.at_ 8, h.at_ 9, h.at_ 10⟩
end Go.Proofs.YtanbjdlaolgepaaGreat
