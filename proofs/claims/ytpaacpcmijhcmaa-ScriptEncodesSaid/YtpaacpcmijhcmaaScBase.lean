/-
  Slices of entries, as the walks are told of them; appending to one of the call's own.
-/
import Derived.Test.YtpaacpcmijhcmaaScMath
import Derived.Test.YtpaacpcmijhcmaaBlk
import Derived.WalkSpells
import Derived.WalkLawsBesides
import Derived.Lib.Hide
import Derived.Maps.AppendAt
import Derived.Deep.Slices
namespace Go.Proofs.Ytpaacpcmijhcmaa
open Go Go.RowKit

/-- The slice (a, n) reads as the entries es. -/
def Ents (w : World) (a : Option Addr) (n : Nat) (es : List (Int × Int)) : Prop :=
  es.length = n ∧ n ≤ maxLen ∧ ∀ i, i < n → ∃ x : Addr, a = some x ∧ x.block < w.heap.size ∧ w.cell? (x.add (i * 2)) = some (.int .i64 (es.getD i (0, 0)).1) ∧ w.cell? (x.add (i * 2 + 1)) = some (.int .i64 (es.getD i (0, 0)).2)

theorem block_add (x : Addr) (i : Nat) : (x.add i).block = x.block := by unfold Addr.add; split <;> rfl
theorem Ents.below {w w' : World} {a : Option Addr} {n : Nat} {es : List (Int × Int)} (h : Ents w a n es) (hb : Below w.heap.size w w') : Ents w' a n es :=
  ⟨h.1, h.2.1, fun i hi => by
    obtain ⟨x, e, hx, h0, h1⟩ := h.2.2 i hi
    have hc : ∀ j, w'.cell? (x.add j) = w.cell? (x.add j) := fun j => hb.cell (by rw [block_add]; exact hx)
    exact ⟨x, e, Nat.lt_of_lt_of_le hx hb.size, (hc _).trans h0, (hc _).trans h1⟩⟩
theorem Ents.alloc {w : World} {a : Option Addr} {n : Nat} {es : List (Int × Int)} (h : Ents w a n es) (o : Obj) : Ents (w.alloc o) a n es := h.below ((Below.refl _ _).alloc (Nat.le_refl _) o)
theorem Ents.drew {w : World} {a : Option Addr} {n : Nat} {es : List (Int × Int)} (h : Ents w a n es) : Ents w.drew a n es := h

/-- A cell behind the head of a struct, as the walk spells it. -/
theorem cell_field {w : World} {x : Addr} {i j : Nat} {u : Value} (h : w.cell? (x.add (i + (j + 1))) = some u) : w.cell? ⟨(x.add i).block, (x.add i).off + (j + 1), none⟩ = some u := by
  have e : x.add (i + (j + 1)) = ⟨(x.add i).block, (x.add i).off + (j + 1), none⟩ := by
    unfold Addr.add
    by_cases hi : i = 0
    · subst hi
      simp
    · rw [if_neg (by omega), if_neg (by omega)]
      simp [Nat.add_assoc]
  rw [← e]
  exact h

theorem Ents.at_ {w : World} {a : Option Addr} {n : Nat} {es : List (Int × Int)} (h : Ents w a n es) {i : Nat} (hi : i < n) :
    ∃ (x : Addr) (k v : Int), a = some x ∧ es[i]? = some (k, v) ∧ x.block < w.heap.size ∧ w.cell? (x.add (i * 2)) = some (.int .i64 k) ∧ w.cell? ⟨(x.add (i * 2)).block, (x.add (i * 2)).off + 1, none⟩ = some (.int .i64 v) := by
  obtain ⟨x, e, hx, h0, h1⟩ := h.2.2 i hi
  have hl : i < es.length := by rw [h.1]; exact hi
  refine ⟨x, (es.getD i (0, 0)).1, (es.getD i (0, 0)).2, e, ?_, hx, h0, cell_field (i := i * 2) (j := 0) h1⟩
  rw [List.getD_eq_getElem?_getD, List.getElem?_eq_getElem hl]
  rfl

/-- A part of a slice. -/
theorem Ents.sub {w : World} {x : Addr} {n : Nat} {es : List (Int × Int)} (h : Ents w (some x) n es) (lo m : Nat) (hm : lo + m ≤ n) : Ents w (some (x.add (lo * 2))) m ((es.drop lo).take m) := by
  refine ⟨by rw [List.length_take, List.length_drop, h.1]; omega, Nat.le_trans (by omega) h.2.1, fun i hi => ?_⟩
  obtain ⟨y, e, hy, h0, h1⟩ := h.2.2 (lo + i) (by omega)
  cases e
  have eg : ((es.drop lo).take m).getD i (0, 0) = es.getD (lo + i) (0, 0) := by
    rw [List.getD_eq_getElem?_getD, List.getD_eq_getElem?_getD, List.getElem?_take, if_pos hi, List.getElem?_drop]
  refine ⟨_, rfl, by rw [block_add]; exact hy, ?_, ?_⟩
  · rw [Go.Deep.add_add, eg, show lo * 2 + i * 2 = (lo + i) * 2 by omega]
    exact h0
  · rw [Go.Deep.add_add, eg, show lo * 2 + (i * 2 + 1) = (lo + i) * 2 + 1 by omega]
    exact h1
theorem Ents.front {w : World} {a : Option Addr} {n : Nat} {es : List (Int × Int)} (h : Ents w a n es) (m : Nat) (hm : m ≤ n) : Ents w a m (es.take m) := by
  refine ⟨by rw [List.length_take, h.1]; omega, Nat.le_trans hm h.2.1, fun i hi => ?_⟩
  have eg : (es.take m).getD i (0, 0) = es.getD i (0, 0) := by
    rw [List.getD_eq_getElem?_getD, List.getD_eq_getElem?_getD, List.getElem?_take, if_pos hi]
  rw [eg]
  exact h.2.2 i (by omega)
/-- What is left behind a place, as a slice expression has it. -/
theorem Ents.rest {w : World} {a : Option Addr} {n c : Nat} {es : List (Int × Int)} (h : Ents w a n es) (hc : n ≤ c) (lo : Nat) (hlo : lo ≤ n) : Ents w (if c = lo then a else a.map (·.add (lo * 2))) (n - lo) (es.drop lo) := by
  cases a with
  | none =>
    have h0 : n = 0 := by
      by_cases h0 : n = 0
      · exact h0
      · obtain ⟨x, e, _⟩ := h.2.2 0 (by omega)
        cases e
    subst h0
    refine ⟨by rw [List.length_drop, h.1], by omega, fun i hi => by omega⟩
  | some x =>
    by_cases hcl : c = lo
    · refine ⟨by rw [List.length_drop, h.1], by have := h.2.1; omega, fun i hi => by omega⟩
    · have := h.sub lo (n - lo) (by omega)
      rw [if_neg hcl]
      rwa [List.take_of_length_le (by rw [List.length_drop, h.1]; exact Nat.le_refl _)] at this
theorem ents_nil (w : World) (a : Option Addr) : Ents w a 0 [] := ⟨rfl, by omega, fun i hi => by omega⟩

/-- The cells of entries. -/
def cellsE : List (Int × Int) → List Value
  | [] => []
  | e :: r => .int .i64 e.1 :: .int .i64 e.2 :: cellsE r
theorem cellsE_length : ∀ es : List (Int × Int), (cellsE es).length = es.length * 2
  | [] => rfl
  | e :: r => by
    simp only [cellsE, List.length_cons, cellsE_length r]
    omega
theorem cellsE_append : ∀ es fs : List (Int × Int), cellsE (es ++ fs) = cellsE es ++ cellsE fs
  | [], _ => rfl
  | e :: r, fs => by simp [cellsE, cellsE_append r fs]
theorem cellsE_at : ∀ (es : List (Int × Int)) (i : Nat), i < es.length → (cellsE es)[i * 2]? = some (.int .i64 (es.getD i (0, 0)).1) ∧ (cellsE es)[i * 2 + 1]? = some (.int .i64 (es.getD i (0, 0)).2)
  | [], _, h => absurd h (by simp)
  | e :: r, 0, _ => ⟨rfl, rfl⟩
  | e :: r, i + 1, h => by
    have := cellsE_at r i (by simpa using h)
    rw [show (i + 1) * 2 = i * 2 + 1 + 1 by omega]
    simpa [cellsE] using this
theorem cellsE_one (es : List (Int × Int)) : ∀ u ∈ cellsE es, u.oneCell' = true := by
  induction es with
  | nil => intro u hu; cases hu
  | cons e r ih =>
    intro u hu
    simp only [cellsE, List.mem_cons] at hu
    rcases hu with rfl | rfl | hu
    · rfl
    · rfl
    · exact ih u hu
/-- Entries read are the cells of them. -/
theorem Ents.cells {w : World} {x : Addr} {n : Nat} {es : List (Int × Int)} (h : Ents w (some x) n es) : ∀ j u, (cellsE es)[j]? = some u → w.cell? (x.add j) = some u := by
  intro j u hu
  have hj : j < es.length * 2 := by
    rw [← cellsE_length]
    exact (List.getElem?_eq_some_iff.1 hu).1
  obtain ⟨y, e, _, h0, h1⟩ := h.2.2 (j / 2) (by rw [← h.1]; omega)
  cases e
  obtain ⟨c0, c1⟩ := cellsE_at es (j / 2) (by omega)
  by_cases hp : j % 2 = 0
  · rw [show j / 2 * 2 = j by omega] at h0 c0
    rw [h0, ← c0, hu]
  · rw [show j / 2 * 2 + 1 = j by omega] at h1 c1
    rw [h1, ← c1, hu]

theorem info_entry : (Try.prog.info? 43).map (fun i => (i.zero, i.size, i.bytes)) = some (some (.agg #[.int .i64 0, .int .i64 0]), 2, 16) := by kernel_rfl

/-- The slice v is the call's own (nil, or a row from block base on) and holds the entries es. -/
def OwnE (w : World) (base : Nat) (v : Value) (es : List (Int × Int)) : Prop := w.ownsRow base 43 2 v es.length (cellsE es)

theorem OwnE.nil (w : World) (base : Nat) : OwnE w base (.slice none 0 0) [] := World.ownsRow_nil w base _ _
theorem OwnE.made (w : World) (base : Nat) (hb : base ≤ w.heap.size) : OwnE (w.alloc (.cells #[] 43)) base (.slice (some ⟨w.heap.size, 0, none⟩) 0 0) [] :=
  World.ownsRow_made w #[] 0 hb (by unfold maxLen; omega) rfl
theorem OwnE.lt {w : World} {base : Nat} {v : Value} {es : List (Int × Int)} (h : OwnE w base v es) : ∀ k, v.ownBlock = some k → base ≤ k ∧ k < w.heap.size := World.ownsRow.lt h
theorem OwnE.mono {w : World} {base base' : Nat} {v : Value} {es : List (Int × Int)} (h : OwnE w base v es) (hb : base' ≤ base) : OwnE w base' v es := by
  refine ⟨h.1, ?_⟩
  rcases h.2 with h2 | ⟨g, cap, cur, rfl, h2, rest⟩
  · exact .inl h2
  · exact .inr ⟨g, cap, cur, rfl, Nat.le_trans hb h2, rest⟩
theorem OwnE.below {w w' : World} {base : Nat} {v : Value} {es : List (Int × Int)} (h : OwnE w base v es) (hb : Below w.heap.size w w') : OwnE w' base v es := by
  refine ⟨h.1, ?_⟩
  rcases h.2 with h2 | ⟨g, cap, cur, rfl, h2, hg, rest⟩
  · exact .inl h2
  · exact .inr ⟨g, cap, cur, rfl, h2, (hb.block g (Array.getElem?_eq_some_iff.1 hg).1).trans hg, rest⟩
theorem OwnE.alloc {w : World} {base : Nat} {v : Value} {es : List (Int × Int)} (h : OwnE w base v es) (o : Obj) : OwnE (w.alloc o) base v es := h.below ((Below.refl _ _).alloc (Nat.le_refl _) o)
theorem OwnE.ents {w : World} {base : Nat} {v : Value} {es : List (Int × Int)} (h : OwnE w base v es) : ∃ a c, v = .slice a es.length c ∧ Ents w a es.length es ∧ es.length ≤ c := by
  rcases h.2 with ⟨rfl, h2⟩ | ⟨g, cap, cur, rfl, h2, hg, hn, hc, _, _⟩
  · have : es = [] := List.eq_nil_of_length_eq_zero h2
    subst this
    exact ⟨none, 0, rfl, ents_nil _ _, Nat.le_refl _⟩
  · refine ⟨_, cap, rfl, ⟨rfl, Nat.le_trans hn hc, fun i hi => ⟨_, rfl, (Array.getElem?_eq_some_iff.1 hg).1, ?_, ?_⟩⟩, hn⟩
    · exact World.ownsRow.cells h rfl _ _ (cellsE_at es i hi).1
    · exact World.ownsRow.cells h rfl _ _ (cellsE_at es i hi).2

/-- What an append leaves: the call began in w0. -/
theorem below_app {w0 w w' : World} {v : Value} {es : List (Int × Int)} (hb : Below w0.heap.size w0 w) (h : OwnE w w0.heap.size v es) (hg : w.grownBy w' v.ownBlock) : Below w0.heap.size w0 w' :=
  ⟨hg.os.trans hb.os, hg.tape.trans hb.tape, hg.output.trans hb.output, Nat.le_trans hb.size hg.size, fun k hk => (hg.block k (Nat.lt_of_lt_of_le hk hb.size) (fun e => by
    have := (h.lt k e.symm).1
    omega)).trans (hb.block k hk)⟩

theorem run_app {w : World} {base : Nat} {v : Value} {es : List (Int × Int)} {a : Option Addr} {m c : Nat} {fs : List (Int × Int)} (hown : OwnE w base v es) (hs : Ents w a m fs) (hn : es.length + m ≤ 1000000) (hb : base ≤ w.heap.size) (ty : TypeId) :
    ∃ v' w', (Builtin.append_ #[25, 25] ty #[v, .slice a m c]).run Try.prog w = .ok v' w' ∧ OwnE w' base v' (es ++ fs) ∧ w.grownBy w' v.ownBlock ∧ (v'.ownBlock = v.ownBlock ∨ v'.ownBlock = some w.heap.size) := by
  obtain ⟨i0, hi, hz0, hz1, hz2⟩ := info_parts info_entry
  have hm : fs.length = m := hs.1
  cases a with
  | none =>
    have h0 : m = 0 := by
      by_cases h : m = 0
      · exact h
      · obtain ⟨x, e, _⟩ := hs.2.2 0 (by omega)
        cases e
    subst h0
    have : fs = [] := List.eq_nil_of_length_eq_zero hm
    subst this
    rw [List.append_nil]
    refine ⟨v, w, ?_, hown, ⟨rfl, rfl, rfl, Nat.le_refl _, fun _ _ _ => rfl⟩, .inl rfl⟩
    rcases hown.2 with ⟨rfl, _⟩ | ⟨g, cap, cur, rfl, _, _, hnc, _⟩
    · simp [Builtin.append_, run_underlying Try.underlying25, sizeOf, typeInfo, hi, Builtin.lenOf, Builtin.firstCells]
    · simp [Builtin.append_, run_underlying Try.underlying25, sizeOf, typeInfo, hi, Builtin.lenOf, Builtin.firstCells, hnc, storeCells]
  | some x =>
    obtain ⟨v', w', h1, h2, h3, _, h5⟩ := run_append_own_at (P := Try.prog) w base 25 ty 43 i0 _ 2 16 Try.underlying25 hi hz0 hz1 hz2 rfl (by omega) v es.length (cellsE es) hown x m c (cellsE fs)
      (by rw [cellsE_length, hm]) hs.cells (cellsE_one fs) (by unfold maxLen; omega) (by omega) hb
    refine ⟨v', w', h1, ?_, h3, h5⟩
    unfold OwnE
    rw [cellsE_append, List.length_append, hm]
    exact h2

/-- At the operation, for the walk. -/
theorem wpList_app {w : World} {ops : Array Oper} {rest : List Oper} {o : Oper} {a : Act} {Q : Exit → Act → World → Prop} (hgd : o.guard = none) (s x : Operand)
    (ho : o.op = .call { callee := .builtin .append, args := #[s, x], argTypes := #[25, 25] })
    {base : Nat} {v : Value} {es : List (Int × Int)} (hs : a.eval s = v) (hown : OwnE w base v es) {ad : Option Addr} {m c : Nat} {fs : List (Int × Int)} (hx : a.eval x = .slice ad m c) (hsrc : Ents w ad m fs) (hn : es.length + m ≤ 1000000) (hb : base ≤ w.heap.size)
    (h : ∀ v' w', OwnE w' base v' (es ++ fs) → w.grownBy w' v.ownBlock → (v'.ownBlock = v.ownBlock ∨ v'.ownBlock = some w.heap.size) → wpList Try.prog ops Q rest (a.put o.dst v') w') :
    wpList Try.prog ops Q (o :: rest) a w := by
  refine wpList_plain hgd fun K hK => ?_
  obtain ⟨v', w', hr, h2, h3, h4⟩ := run_app (c := c) hown hsrc hn hb o.type
  unfold Oper.wp execOp
  simp only [ho, resolve, invoke, builtin, Sem.run_bind, Sem.run_pure, Result.andThen_ok, List.map_toArray, List.map_cons, List.map_nil, hs, hx, hr]
  exact hK _ _ (h v' w' h2 h3 h4)

/-- One entry in a row of its own. -/
theorem ents_one (w : World) (k v : Int) : Ents (w.alloc (.cells #[.int .i64 k, .int .i64 v] 43)) (some ⟨w.heap.size, 0, none⟩) 1 [(k, v)] := by
  refine ⟨rfl, by unfold maxLen; omega, fun i hi => ?_⟩
  obtain rfl : i = 0 := by omega
  have hB := Blk.made w 43 #[.int .i64 k, .int .i64 v]
  exact ⟨_, rfl, by simp, hB.at_ 0, hB.at_ 1⟩
end Go.Proofs.Ytpaacpcmijhcmaa
