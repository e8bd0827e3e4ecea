/-
  What the laws about an owner and thieves alone carry along. (Written by wip/gen_oaw.py.)
  Plain mathematics: a set and a clear that run alone, and what they leave of a word. No function is named.
  Events as plain data.
  Rows of events of the call's own: what keeps them, an append.
  Slices of events that came in.
-/
import Derived.Test.YtllllbepnnpeeaaMgAH
import Derived.Test.YtllllbepnnpeeaaMgAE
import Derived.Test.YtllllbepnnpeeaaMgAF
import Derived.Test.YtllllbepnnpeeaaMgAK
import Derived.Test.YtllllbepnnpeeaaMgAA
import Derived.Test.YtllllbepnnpeeaaMgAB
namespace Go.Proofs.Ytllllbepnnpeeaa
open Go Go.RowKit Go.Shelf
set_option linter.unusedSimpArgs false
set_option linter.unusedVariables false

theorem runS_N {stp : St → Fra → St × Fra × Res} {ok : Fra → Prop} (hk : Keeps stp ok) : ∀ (k : Nat) {s s' : St} {f : Fra} {r : Res} {N : Nat}, s.N → ok f → runS stp k s f = some (s', r, N) → s'.N
  | 0, _, _, _, _, _, _, _, h => by simp [runS] at h
  | k + 1, s, s', f, r, N, hn, ho, h => by
    cases hd : (stp s f).2.2.dn with
    | true =>
      obtain ⟨e, _, _⟩ := runS_end h hd
      rw [← e]
      exact hk.n s f hn ho
    | false =>
      obtain ⟨M, e, _⟩ := runS_on h hd
      exact runS_N hk k (hk.n s f hn ho) (hk.o s f hn ho hd) e

theorem pushOk1 (n : Int) (hn : n ≤ 100) (v : Int) : PushOk (fra1 0 0 1 2 n v) := ⟨.inl rfl, Int.le_refl _, Int.le_refl _, by show n ≤ _; omega⟩
theorem popOk1 (n : Int) (hn : n ≤ 100) : PopOk (fra1 1 0 1 2 n 0) := ⟨.inl rfl, Int.le_refl _, Int.le_refl _, by show n ≤ _; omega⟩

/-- What a law about an owner alone carries along: the program's environment, its deque's value (block qb); all of it is newer than w0. -/
structure AW (w0 : World) (p m k g cap : Nat) (hd : List Value) (rv ev : Value) (t d : Int) (qb n : Nat) (s : St) (w : World) : Prop where
  e : PE w p m k g cap s t d hd rv ev
  q : Blk w qb 52 (qcells 0 1 2 n)
  n : s.N
  b : Below w0.heap.size w0 w
  lo : w0.heap.size ≤ p ∧ w0.heap.size ≤ m ∧ w0.heap.size ≤ k ∧ w0.heap.size ≤ g ∧ w0.heap.size ≤ qb
section
variable {w0 w w' : World} {p m k g cap : Nat} {hd : List Value} {rv ev : Value} {t d : Int} {qb n : Nat} {s s' : St}
theorem AW.below (h : AW w0 p m k g cap hd rv ev t d qb n s w) (hb : Below w.heap.size w w') : AW w0 p m k g cap hd rv ev t d qb n s w' :=
  ⟨h.e.below hb, h.q.below hb, h.n, h.b.trans (hb.mono h.b.size), h.lo⟩
theorem AW.done (h : AW w0 p m k g cap hd rv ev t d qb n s w) {x : Nat} {ty : TypeId} {post : List Value} {f : Fra} {cd vl : Int} (ho : OB w x ty post f cd vl) (ht : ty ≠ 52) (hx : w0.heap.size ≤ x) (hp : PE w' p m k g cap s' t d hd rv ev) (hf : Fr [m, g, x] w w') (hn : s'.N) : AW w0 p m k g cap hd rv ev t d qb n s' w' := by
  obtain ⟨cur, hg, _⟩ := h.e.mem.row.blk
  refine ⟨hp, h.q.of_same (hf.block qb h.q.lt ?_), hn, below_of_fr h.b hf (fun y hy => ?_), h.lo⟩
  · simp only [List.mem_cons, List.not_mem_nil, or_false, not_or]
    exact ⟨h.q.apart h.e.mem.blk (by decide), h.q.apart hg (by decide), h.q.apart ho.blk (fun e => ht e.symm)⟩
  · simp only [List.mem_cons, List.not_mem_nil, or_false] at hy
    rcases hy with rfl | rfl | rfl
    · exact h.lo.2.1
    · exact h.lo.2.2.2.1
    · exact hx
end
theorem dq_new : DQ (St.new 4) 2 0 [] := ⟨by simp [St.new], by decide, by decide, by simp, fun i hi => by simp at hi, by omega⟩
theorem new_N (n : Nat) : (St.new n).N := N_of (fun j hj => by
  have : (St.new n).X.getD j 0 = 0 := by
    show (List.replicate n (0 : Int)).getD j 0 = 0
    rw [List.getD_eq_getElem?_getD, List.getElem?_replicate]
    split <;> rfl
  omega)

theorem Row.inNN {X : List Int} (h : ∀ x, x ∈ X → 0 ≤ x) {s : St} (e : s.X = X) : s.N := N_of (fun j hj => by
  rw [e] at hj ⊢
  rw [List.getD_eq_getElem?_getD, List.getElem?_eq_getElem hj]
  exact h _ (List.getElem_mem hj))
end Go.Proofs.Ytllllbepnnpeeaa

namespace Go.Proofs.Ytllllbepnnpeeaa
open Go Go.RowKit
set_option linter.unusedSimpArgs false
set_option linter.unusedVariables false

theorem runS_goes {stp : St → Fra → St × Fra × Res} {n N : Nat} {s s1 s' : St} {f f1 : Fra} {r : Res} (h : stp s f = (s1, f1, .none)) (hr : runS stp n s1 f1 = some (s', r, N)) : runS stp (n + 1) s f = some (s', r, N + 1) := by
  unfold runS
  rw [h]
  simp [hr]
theorem runS_ends {stp : St → Fra → St × Fra × Res} {n : Nat} {s s1 : St} {f f1 : Fra} {c v : Int} (h : stp s f = (s1, f1, ⟨true, c, v⟩)) : runS stp (n + 1) s f = some (s1, ⟨true, c, v⟩, 1) := by
  unfold runS
  rw [h]
  simp
theorem run_set (s : St) (f : Fra) : runS setS 9 s f = some (s.go 4 f.fa (fun x => bits .or .u64 x (maskS f.fb)), ⟨true, 0, 0⟩, 1) := runS_ends (f1 := f) rfl
theorem run_clear (s : St) (f : Fra) (h : f.ln = 1) (n1 : f.fa ≠ f.qb) (n2 : f.fa ≠ f.qt) : ∃ s' r N, runS clearS 9 s f = some (s', r, N) ∧ s'.X.length = s.X.length ∧ (∀ j, j ≠ f.fa → s'.old j = s.old j) ∧
    ((sizeI (s.old f.qb) (s.old f.qt) ≤ 0 ∧ r = ⟨true, 2, 0⟩ ∧ N = 3 ∧ (s.has f.fa → s'.old f.fa = bits .and .u64 (s.old f.fa) (notU (maskS f.fb)))) ∨
     (¬ sizeI (s.old f.qb) (s.old f.qt) ≤ 0 ∧ r = ⟨true, 1, 0⟩ ∧ N = 4 ∧ (s.has f.fa → s'.old f.fa = bits .or .u64 (bits .and .u64 (s.old f.fa) (notU (maskS f.fb))) (maskS f.fb)))) := by
  obtain ⟨s1, e1⟩ : ∃ s1, s.go 5 f.fa (fun x => bits .and .u64 x (notU (maskS f.fb))) = s1 := ⟨_, rfl⟩
  have k1 := clearS_1 (s := s) h
  rw [e1] at k1
  have ob : s1.old f.qb = s.old f.qb := by rw [← e1]; exact go_other _ _ _ _ _ n1
  have ot : s1.old f.qt = s.old f.qt := by rw [← e1]; exact go_other _ _ _ _ _ n2
  have l1 : s1.X.length = s.X.length := by rw [← e1]; exact go_len _ _ _ _
  have oj : ∀ j, j ≠ f.fa → s1.old j = s.old j := fun j hj => by rw [← e1]; exact go_other _ _ _ _ _ (fun e => hj e.symm)
  have oa : s.has f.fa → s1.old f.fa = bits .and .u64 (s.old f.fa) (notU (maskS f.fb)) := fun hh => by rw [← e1]; exact go_old _ _ _ _ hh
  have k2 := clearS_2 (s := s1) (f := { f with ln := 2 }) rfl
  have ot2 : (s1.go 1 f.qb id).old f.qt = s.old f.qt := (old_load ..).trans ot
  by_cases hc : sizeI (s.old f.qb) (s.old f.qt) ≤ 0
  · have k3 := clearS_3e (s := s1.go 1 f.qb id) (f := { f with fu := s1.old f.qb, ln := 3 }) rfl (by show sizeI (s1.old f.qb) ((s1.go 1 f.qb id).old f.qt) ≤ 0; rw [ob, ot2]; exact hc)
    refine ⟨_, _, _, runS_goes k1 (runS_goes k2 (runS_ends k3)), ?_, fun j hj => ?_, .inl ⟨hc, rfl, rfl, fun hh => ?_⟩⟩
    · rw [go_len, go_len, l1]
    · rw [old_load, old_load, oj j hj]
    · rw [old_load, old_load, oa hh]
  · have k3 := clearS_3 (s := s1.go 1 f.qb id) (f := { f with fu := s1.old f.qb, ln := 3 }) rfl (by show ¬ sizeI (s1.old f.qb) ((s1.go 1 f.qb id).old f.qt) ≤ 0; rw [ob, ot2]; exact hc)
    have k4 := clearS_4 (s := (s1.go 1 f.qb id).go 1 f.qt id) (f := { f with fu := s1.old f.qb, fv := (s1.go 1 f.qb id).old f.qt, ln := 4 }) rfl
    refine ⟨_, _, _, runS_goes k1 (runS_goes k2 (runS_goes k3 (runS_ends k4))), ?_, fun j hj => ?_, .inr ⟨hc, rfl, rfl, fun hh => ?_⟩⟩
    · rw [go_len, go_len, go_len, l1]
    · show (St.go _ 4 f.fa _).old j = _
      rw [go_other _ _ _ _ _ (fun e => hj e.symm), old_load, old_load, oj j hj]
    · show (St.go _ 4 f.fa _).old f.fa = _
      rw [go_old _ _ _ _ (by rw [go_has, go_has, ← e1, go_has]; exact hh), old_load, old_load, oa hh]
theorem maskS_some (i : Int) : ∃ M : Nat, M < 18446744073709551616 ∧ maskS i = M := by
  unfold maskS
  split
  · exact ⟨0, by decide, rfl⟩
  · exact ⟨2 ^ i.toNat, pow_lt64 _ (by omega), rfl⟩
theorem word_bits (P x M : Nat) (hP : P < 18446744073709551616) (hx : x < 18446744073709551616) (hM : M < 18446744073709551616) (h : ∀ i, M.testBit i = false → P.testBit i = x.testBit i) : bits .andNot .u64 (bits .xor .u64 (P : Int) (x : Int)) (M : Int) = 0 := by
  have h1 : P ^^^ x < 2 ^ 64 := Nat.xor_lt_two_pow hP hx
  rw [u64_xor_nat P x hP hx, u64_andNot_nat _ M h1 hM]
  have : (P ^^^ x) &&& (18446744073709551615 - M) = 0 := by
    apply Nat.eq_of_testBit_eq
    intro i
    have e2 : 18446744073709551615 - M = 2 ^ 64 - (M + 1) := by omega
    rw [e2, Nat.testBit_and, Nat.testBit_xor, Nat.testBit_two_pow_sub_succ hM, Nat.zero_testBit]
    cases hm : M.testBit i with
    | true => simp
    | false => rw [h i hm]; simp
  rw [this]
  rfl
theorem word_or (x M : Nat) (hx : x < 18446744073709551616) (hM : M < 18446744073709551616) : ∃ P : Nat, P < 18446744073709551616 ∧ bits .or .u64 (x : Int) (M : Int) = P ∧ ∀ i, M.testBit i = false → P.testBit i = x.testBit i :=
  ⟨x ||| M, Nat.or_lt_two_pow (n := 64) hx hM, u64_or_nat x M hx hM, fun i hi => by rw [Nat.testBit_or, hi, Bool.or_false]⟩
theorem word_and (x M : Nat) (hx : x < 18446744073709551616) (hM : M < 18446744073709551616) : ∃ P : Nat, P < 18446744073709551616 ∧ bits .and .u64 (x : Int) (notU (M : Int)) = P ∧ ∀ i, M.testBit i = false → P.testBit i = x.testBit i := by
  refine ⟨x &&& (18446744073709551615 ^^^ M), Nat.and_lt_two_pow (n := 64) _ (not_lt64 M hM), ?_, fun i hi => ?_⟩
  · rw [notU_nat M hM]
    exact u64_and_nat x _ hx (not_lt64 M hM)
  · have e1 : (18446744073709551615 : Nat) = 2 ^ 64 - 1 := by decide
    rw [Nat.testBit_and, Nat.testBit_xor, hi, e1, Nat.testBit_two_pow_sub_one]
    by_cases h : i < 64
    · simp [h]
    · have hp : 18446744073709551616 ≤ 2 ^ i := Nat.pow_le_pow_right (n := 2) (by decide) (show 64 ≤ i by omega)
      have a := Nat.testBit_lt_two_pow (Nat.lt_of_lt_of_le hx hp)
      simp [a]
/-- What Set and Clear leave of a word: no other bit has changed. -/
theorem word_kept (x : Nat) (hx : x < 18446744073709551616) (bit P : Int) (h : P = bits .or .u64 x (maskS bit) ∨ P = bits .and .u64 x (notU (maskS bit)) ∨ P = bits .or .u64 (bits .and .u64 x (notU (maskS bit))) (maskS bit)) : bits .andNot .u64 (bits .xor .u64 P x) (maskS bit) = 0 := by
  obtain ⟨M, hM, e⟩ := maskS_some bit
  rw [e] at h ⊢
  rcases h with rfl | rfl | rfl
  · obtain ⟨P, hP, e, hb⟩ := word_or x M hx hM
    rw [e]
    exact word_bits P x M hP hx hM hb
  · obtain ⟨P, hP, e, hb⟩ := word_and x M hx hM
    rw [e]
    exact word_bits P x M hP hx hM hb
  · obtain ⟨P, hP, e, hb⟩ := word_and x M hx hM
    obtain ⟨P2, hP2, e2, hb2⟩ := word_or P M hP hM
    rw [e, e2]
    exact word_bits P2 x M hP2 hx hM (fun i hi => (hb2 i hi).trans (hb i hi))
end Go.Proofs.Ytllllbepnnpeeaa

namespace Go.Proofs.Ytllllbepnnpeeaa
open Go Go.RowKit
set_option linter.unusedSimpArgs false

/-- An event. -/
structure Ev where
  kd : Int
  wk : Int
  tk : Int
  ot : Int
  lv : Int
  deriving DecidableEq
abbrev evV (e : Ev) : Array Value := #[.int .i64 e.kd, .int .i64 e.wk, .int .i64 e.tk, .int .i64 e.ot, .int .i64 e.lv]
def cellsV : List Ev → List Value
  | [] => []
  | e :: r => .int .i64 e.kd :: .int .i64 e.wk :: .int .i64 e.tk :: .int .i64 e.ot :: .int .i64 e.lv :: cellsV r
theorem cellsV_length : ∀ l : List Ev, (cellsV l).length = l.length * 5
  | [] => rfl
  | e :: r => by
    simp only [cellsV, List.length_cons, cellsV_length r]
    omega
theorem cellsV_append : ∀ a b : List Ev, cellsV (a ++ b) = cellsV a ++ cellsV b
  | [], _ => rfl
  | e :: r, b => by simp [cellsV, cellsV_append r b]
theorem cellsV_one (l : List Ev) : ∀ u ∈ cellsV l, u.oneCell' = true := by
  induction l with
  | nil => intro u hu; cases hu
  | cons e r ih =>
    intro u hu
    simp only [cellsV, List.mem_cons] at hu
    rcases hu with rfl | rfl | rfl | rfl | rfl | hu
    · rfl
    · rfl
    · rfl
    · rfl
    · rfl
    · exact ih u hu
/-- Cell j of element i. -/
theorem cellsV_at : ∀ (l : List Ev) (i j : Nat) (e : Ev), l[i]? = some e → j < 5 → (cellsV l)[i * 5 + j]? = (evV e)[j]?
  | [], _, _, _, h, _ => by simp at h
  | x :: r, 0, j, e, h, hj => by
    simp only [List.getElem?_cons_zero, Option.some.injEq] at h
    subst h
    match j, hj with
    | 0, _ => rfl
    | 1, _ => rfl
    | 2, _ => rfl
    | 3, _ => rfl
    | 4, _ => rfl
    | j + 5, hj => omega
  | x :: r, i + 1, j, e, h, hj => by
    have := cellsV_at r i j e (by simpa using h) hj
    rw [show (i + 1) * 5 + j = i * 5 + j + 1 + 1 + 1 + 1 + 1 by omega]
    simpa [cellsV] using this
/-- A row of events of the call's own. -/
def OwnE (w : World) (base : Nat) (v : Value) (l : List Ev) : Prop := w.ownsRow base 172 5 v l.length (cellsV l)
end Go.Proofs.Ytllllbepnnpeeaa

namespace Go.Proofs.Ytllllbepnnpeeaa
open Go Go.RowKit
set_option linter.unusedSimpArgs false

theorem info_event : (Try.prog.info? 172).map (fun i => (i.zero, i.size, i.bytes)) = some (some (.agg #[.int .i64 0, .int .i64 0, .int .i64 0, .int .i64 0, .int .i64 0]), 5, 40) := by kernel_rfl
/-- The five cells of an event. -/
def FiveV (w : World) (x : Addr) (e : Ev) : Prop := ∀ j u, (cellsV [e])[j]? = some u → w.cell? (x.add j) = some u
theorem fiveV_new (w : World) (kd wk tk ot lv : Int) : FiveV (w.alloc (.cells #[.int .i64 kd, .int .i64 wk, .int .i64 tk, .int .i64 ot, .int .i64 lv] 172)) ⟨w.heap.size, 0, none⟩ ⟨kd, wk, tk, ot, lv⟩ := by
  have hB := Blk.made w 172 #[.int .i64 kd, .int .i64 wk, .int .i64 tk, .int .i64 ot, .int .i64 lv]
  intro j u hu
  match j, hu with
  | 0, hu => exact (hB.at_ 0).trans hu
  | 1, hu => exact (hB.at_ 1).trans hu
  | 2, hu => exact (hB.at_ 2).trans hu
  | 3, hu => exact (hB.at_ 3).trans hu
  | 4, hu => exact (hB.at_ 4).trans hu
  | j + 5, hu => simp [cellsV] at hu
theorem OwnE.below {w w' : World} {B : Nat} {v : Value} {es : List Ev} (h : OwnE w B v es) (hb : Below w.heap.size w w') : OwnE w' B v es := by
  refine ⟨h.1, ?_⟩
  rcases h.2 with h2 | ⟨g, cap, cur, rfl, h2, hg, rest⟩
  · exact .inl h2
  · exact .inr ⟨g, cap, cur, rfl, h2, (hb.block g (Array.getElem?_eq_some_iff.1 hg).1).trans hg, rest⟩
theorem OwnE.lt {w : World} {B : Nat} {v : Value} {es : List Ev} (h : OwnE w B v es) : ∀ k, v.ownBlock = some k → B ≤ k ∧ k < w.heap.size := World.ownsRow.lt h
theorem OwnE.form {w : World} {B : Nat} {v : Value} {es : List Ev} (h : OwnE w B v es) : ∃ a c, v = .slice a es.length c := by
  rcases h.2 with ⟨rfl, h2⟩ | ⟨g, cap, cur, rfl, _⟩
  · rw [h2]
    exact ⟨_, _, rfl⟩
  · exact ⟨_, _, rfl⟩
theorem OwnE.nil (w : World) (B : Nat) : OwnE w B (.slice none 0 0) [] := World.ownsRow_nil w B _ _
theorem wpList_appV {w : World} {ops : Array Oper} {rest : List Oper} {o : Oper} {a : Act} {Q : Exit → Act → World → Prop} (hgd : o.guard = none) (s x : Operand)
    (ho : o.op = .call { callee := .builtin .append, args := #[s, x], argTypes := #[63, 63] })
    {base : Nat} {v : Value} {l : List Ev} (hs : a.eval s = v) (hown : OwnE w base v l) {ad : Addr} {c : Nat} {e : Ev} (hx : a.eval x = .slice (some ad) 1 c) (h5 : FiveV w ad e) (hn : l.length + 1 ≤ 1000000) (hb : base ≤ w.heap.size)
    (h : ∀ v' w', OwnE w' base v' (l ++ [e]) → w.grownBy w' v.ownBlock → (v'.ownBlock = v.ownBlock ∨ v'.ownBlock = some w.heap.size) → wpList Try.prog ops Q rest (a.put o.dst v') w') :
    wpList Try.prog ops Q (o :: rest) a w := by
  obtain ⟨i0, hi, hz0, hz1, hz2⟩ := info_parts info_event
  refine wpList_append_own_at w hgd s x 63 ho base 172 i0 _ 5 40 Try.underlying63 hi hz0 hz1 hz2 rfl (by omega) v l.length (cellsV l) hs hown ad 1 c (cellsV [e]) hx rfl h5 (cellsV_one [e]) (by unfold maxLen; omega) (by omega) hb ?_
  intro v' w' h1 h2 _ h4
  refine h v' w' ?_ h2 h4
  unfold OwnE
  rw [cellsV_append, List.length_append]
  exact h1
theorem OwnE.formN {w : World} {B : Nat} {v : Value} {es : List Ev} {n : Nat} (h : OwnE w B v es) (hn : es.length = n) : ∃ a c, v = .slice a n c := by
  subst hn
  exact h.form
end Go.Proofs.Ytllllbepnnpeeaa

namespace Go.Proofs.Ytllllbepnnpeeaa
open Go Go.RowKit
set_option linter.unusedSimpArgs false

/-- The slice at a reads as the events es. -/
def InE (w : World) (a : Option Addr) (es : List Ev) : Prop := es.length ≤ maxLen ∧ ∀ i e, es[i]? = some e → ∃ x : Addr, a = some x ∧ x.block < w.heap.size ∧ ∀ j, j < 5 → w.cell? (x.add (i * 5 + j)) = (evV e)[j]?
theorem InE.below {w w' : World} {a : Option Addr} {es : List Ev} (h : InE w a es) (hb : Below w.heap.size w w') : InE w' a es :=
  ⟨h.1, fun i e hi => by
    obtain ⟨x, ha, hx, hc⟩ := h.2 i e hi
    exact ⟨x, ha, Nat.lt_of_lt_of_le hx hb.size, fun j hj => (hb.cell (by rw [block_add]; exact hx)).trans (hc j hj)⟩⟩
theorem InE.at_ {w : World} {a : Option Addr} {es : List Ev} (h : InE w a es) {i : Nat} {e : Ev} (hi : es[i]? = some e) :
    ∃ x : Addr, a = some x ∧ w.cell? (x.add (i * 5)) = some (.int .i64 e.kd) ∧ w.cell? ⟨(x.add (i * 5)).block, (x.add (i * 5)).off + 1, none⟩ = some (.int .i64 e.wk) ∧ w.cell? ⟨(x.add (i * 5)).block, (x.add (i * 5)).off + 2, none⟩ = some (.int .i64 e.tk)
      ∧ w.cell? ⟨(x.add (i * 5)).block, (x.add (i * 5)).off + 3, none⟩ = some (.int .i64 e.ot) ∧ w.cell? ⟨(x.add (i * 5)).block, (x.add (i * 5)).off + 4, none⟩ = some (.int .i64 e.lv) := by
  obtain ⟨x, ha, _, hc⟩ := h.2 i e hi
  exact ⟨x, ha, hc 0 (by omega), cell_field (i := i * 5) (j := 0) (hc 1 (by omega)), cell_field (i := i * 5) (j := 1) (hc 2 (by omega)), cell_field (i := i * 5) (j := 2) (hc 3 (by omega)), cell_field (i := i * 5) (j := 3) (hc 4 (by omega))⟩
theorem OwnE.inE {w : World} {B : Nat} {v : Value} {es : List Ev} (h : OwnE w B v es) : ∃ a c, v = .slice a es.length c ∧ InE w a es := by
  rcases h.2 with ⟨rfl, h2⟩ | ⟨g, cap, cur, rfl, _, hg, hn, hm, _, _⟩
  · have hl : es.length = 0 := h2
    have : es = [] := List.length_eq_zero_iff.1 hl
    subst this
    exact ⟨none, 0, rfl, by unfold maxLen; omega, fun i e hi => by simp at hi⟩
  · refine ⟨_, _, rfl, by unfold maxLen at *; omega, fun i e hi => ⟨_, rfl, (Array.getElem?_eq_some_iff.1 hg).1, fun j hj => ?_⟩⟩
    have e1 := cellsV_at es i j e hi hj
    have hlt : j < (evV e).size := hj
    rw [Array.getElem?_eq_getElem hlt] at e1 ⊢
    exact World.ownsRow.cells h rfl _ _ e1
end Go.Proofs.Ytllllbepnnpeeaa
