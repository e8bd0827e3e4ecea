/-
  Rows of the call's own: of triples, of programs; appending to them.
-/
import Derived.Test.YtgipddeldddbnaaGreatCfBase
namespace Go.Proofs.YtgipddeldddbnaaGreat
open Go Go.RowKit

/-- The cells of triples. -/
def cellsT : List T3 → List Value
  | [] => []
  | e :: r => .int .i64 e.1 :: .int .i64 e.2.1 :: .int .i64 e.2.2 :: cellsT r
theorem cellsT_length : ∀ l : List T3, (cellsT l).length = l.length * 3
  | [] => rfl
  | e :: r => by
    simp only [cellsT, List.length_cons, cellsT_length r]
    omega
theorem cellsT_append : ∀ a b : List T3, cellsT (a ++ b) = cellsT a ++ cellsT b
  | [], _ => rfl
  | e :: r, b => by simp [cellsT, cellsT_append r b]
theorem cellsT_at : ∀ (l : List T3) (i : Nat), i < l.length → (cellsT l)[i * 3]? = some (.int .i64 (l.getD i z3).1) ∧ (cellsT l)[i * 3 + 1]? = some (.int .i64 (l.getD i z3).2.1) ∧ (cellsT l)[i * 3 + 2]? = some (.int .i64 (l.getD i z3).2.2)
  | [], _, h => absurd h (by simp)
  | e :: r, 0, _ => ⟨rfl, rfl, rfl⟩
  | e :: r, i + 1, h => by
    have := cellsT_at r i (by simpa using h)
    rw [show (i + 1) * 3 = i * 3 + 1 + 1 + 1 by omega]
    simpa [cellsT] using this
theorem cellsT_one (l : List T3) : ∀ u ∈ cellsT l, u.oneCell' = true := by
  induction l with
  | nil => intro u hu; cases hu
  | cons e r ih =>
    intro u hu
    simp only [cellsT, List.mem_cons] at hu
    rcases hu with rfl | rfl | rfl | hu
    · rfl
    · rfl
    · rfl
    · exact ih u hu

theorem info_instr : (Tryz.prog.info? 84).map (fun i => (i.zero, i.size, i.bytes)) = some (some (.agg #[.int .i64 0, .int .i64 0, .int .i64 0]), 3, 24) := by kernel_rfl
theorem info_sub : (Tryz.prog.info? 87).map (fun i => (i.zero, i.size, i.bytes)) = some (some (.agg #[.int .i64 0, .int .i64 0, .int .i64 0]), 3, 24) := by kernel_rfl
theorem info_code : (Tryz.prog.info? 81).map (fun i => (i.zero, i.size, i.bytes)) = some (some (.slice none 0 0), 1, 24) := by kernel_rfl

/-- The slice v is the call's own (nil, or a row from block base on, of element type t) and holds the triples l. -/
def OwnT (w : World) (base : Nat) (t : TypeId) (v : Value) (l : List T3) : Prop := w.ownsRow base t 3 v l.length (cellsT l)
theorem OwnT.nil (w : World) (base : Nat) (t : TypeId) : OwnT w base t (.slice none 0 0) [] := World.ownsRow_nil w base _ _
theorem OwnT.lt {w : World} {base : Nat} {t : TypeId} {v : Value} {l : List T3} (h : OwnT w base t v l) : ∀ k, v.ownBlock = some k → base ≤ k ∧ k < w.heap.size := World.ownsRow.lt h
theorem OwnT.mono {w : World} {base base' : Nat} {t : TypeId} {v : Value} {l : List T3} (h : OwnT w base t v l) (hb : base' ≤ base) : OwnT w base' t v l := by
  refine ⟨h.1, ?_⟩
  rcases h.2 with h2 | ⟨g, cap, cur, rfl, h2, rest⟩
  · exact .inl h2
  · exact .inr ⟨g, cap, cur, rfl, Nat.le_trans hb h2, rest⟩
theorem OwnT.fr {w w' : World} {base : Nat} {t : TypeId} {v : Value} {l : List T3} {S : List Nat} (h : OwnT w base t v l) (hb : Fr S w w') (hS : ∀ s, s ∈ S → s < base) : OwnT w' base t v l := by
  refine ⟨h.1, ?_⟩
  rcases h.2 with h2 | ⟨g, cap, cur, rfl, h2, hg, rest⟩
  · exact .inl h2
  · exact .inr ⟨g, cap, cur, rfl, h2, (hb.block g (Array.getElem?_eq_some_iff.1 hg).1 (fun hm => by have := hS g hm; omega)).trans hg, rest⟩
theorem OwnT.below {w w' : World} {base : Nat} {t : TypeId} {v : Value} {l : List T3} (h : OwnT w base t v l) (hb : Below w.heap.size w w') : OwnT w' base t v l := h.fr (S := []) (Fr.old hb) (fun s hs => by cases hs)
theorem OwnT.alloc {w : World} {base : Nat} {t : TypeId} {v : Value} {l : List T3} (h : OwnT w base t v l) (o : Obj) : OwnT (w.alloc o) base t v l := h.below (below_one w o)
theorem OwnT.form {w : World} {base : Nat} {t : TypeId} {v : Value} {l : List T3} (h : OwnT w base t v l) : ∃ a c, v = .slice a l.length c ∧ Tris w base a l.length l ∧ l.length ≤ c := by
  rcases h.2 with ⟨rfl, h2⟩ | ⟨g, cap, cur, rfl, h2, hg, hn, hc, _, _⟩
  · have : l = [] := List.eq_nil_of_length_eq_zero h2
    subst this
    exact ⟨none, 0, rfl, tris_nil _ _ _, Nat.le_refl _⟩
  · refine ⟨_, cap, rfl, ⟨rfl, Nat.le_trans hn hc, fun i hi => ⟨_, rfl, h2, (Array.getElem?_eq_some_iff.1 hg).1, ?_, ?_, ?_⟩⟩, hn⟩
    · exact World.ownsRow.cells h rfl _ _ (cellsT_at l i hi).1
    · exact World.ownsRow.cells h rfl _ _ (cellsT_at l i hi).2.1
    · exact World.ownsRow.cells h rfl _ _ (cellsT_at l i hi).2.2
theorem OwnT.formN {w : World} {base : Nat} {t : TypeId} {v : Value} {l : List T3} {n : Nat} (h : OwnT w base t v l) (hn : l.length = n) : ∃ a c, v = .slice a n c ∧ Tris w base a n l ∧ n ≤ c := by
  subst hn
  exact h.form

/-- What is left as it was when a row of the call's own grows. -/
theorem fr_grown {S : List Nat} {w0 w w' : World} {row : Option Nat} (hb : Fr S w0 w) (hr : ∀ k, row = some k → w0.heap.size ≤ k) (hg : w.grownBy w' row) : Fr S w0 w' :=
  ⟨hg.os.trans hb.os, hg.tape.trans hb.tape, hg.output.trans hb.output, Nat.le_trans hb.size hg.size, fun k hk hn => (hg.block k (Nat.lt_of_lt_of_le hk hb.size) (fun e => by
    have := hr k e.symm
    omega)).trans (hb.block k hk hn)⟩
/-- The three cells of a triple. -/
def Three (w : World) (x : Addr) (e : T3) : Prop := w.cell? (x.add 0) = some (.int .i64 e.1) ∧ w.cell? (x.add 1) = some (.int .i64 e.2.1) ∧ w.cell? (x.add 2) = some (.int .i64 e.2.2)
theorem three_new (w : World) (t : TypeId) (o p q : Int) : Three (w.alloc (.cells #[.int .i64 o, .int .i64 p, .int .i64 q] t)) ⟨w.heap.size, 0, none⟩ (o, p, q) := by
  have hB := Blk.made w t #[.int .i64 o, .int .i64 p, .int .i64 q]
  exact ⟨hB.at_ 0, hB.at_ 1, hB.at_ 2⟩
theorem Three.cells {w : World} {x : Addr} {e : T3} (h : Three w x e) : ∀ j u, (cellsT [e])[j]? = some u → w.cell? (x.add j) = some u := by
  intro j u hu
  match j, hu with
  | 0, hu => exact h.1.trans hu
  | 1, hu => exact h.2.1.trans hu
  | 2, hu => exact h.2.2.trans hu
  | j + 3, hu => simp [cellsT] at hu

/-- An append of one triple at the operation, for the walk. -/
theorem wpList_appT {w : World} {ops : Array Oper} {rest : List Oper} {o : Oper} {a : Act} {Q : Exit → Act → World → Prop} {t tt : TypeId} (hu : Tryz.prog.underlying tt = some (.slice t))
    (hinfo : (Tryz.prog.info? t).map (fun i => (i.zero, i.size, i.bytes)) = some (some (.agg #[.int .i64 0, .int .i64 0, .int .i64 0]), 3, 24)) (hgd : o.guard = none) (s x : Operand)
    (ho : o.op = .call { callee := .builtin .append, args := #[s, x], argTypes := #[tt, tt] })
    {base : Nat} {v : Value} {l : List T3} (hs : a.eval s = v) (hown : OwnT w base t v l) {ad : Addr} {c : Nat} {e : T3} (hx : a.eval x = .slice (some ad) 1 c) (h3 : Three w ad e) (hn : l.length + 1 ≤ 1000000) (hb : base ≤ w.heap.size)
    (h : ∀ v' w', OwnT w' base t v' (l ++ [e]) → w.grownBy w' v.ownBlock → (v'.ownBlock = v.ownBlock ∨ v'.ownBlock = some w.heap.size) → wpList Tryz.prog ops Q rest (a.put o.dst v') w') :
    wpList Tryz.prog ops Q (o :: rest) a w := by
  obtain ⟨i0, hi, hz0, hz1, hz2⟩ := info_parts hinfo
  refine wpList_append_own_at w hgd s x tt ho base t i0 _ 3 24 hu hi hz0 hz1 hz2 rfl (by omega) v l.length (cellsT l) hs hown ad 1 c (cellsT [e]) hx rfl h3.cells (cellsT_one [e]) (by unfold maxLen; omega) (by omega) hb ?_
  intro v' w' h1 h2 _ h4
  refine h v' w' ?_ h2 h4
  unfold OwnT
  rw [cellsT_append, List.length_append]
  exact h1
/-- .. as one step of a region that draws its order. -/
theorem step_appT {w : World} {ops : Array Oper} {o : Oper} {a : Act} {K : Act → World → Prop} {Q : Exit → Act → World → Prop} {E : Prop} {t tt : TypeId} (hu : Tryz.prog.underlying tt = some (.slice t))
    (hinfo : (Tryz.prog.info? t).map (fun i => (i.zero, i.size, i.bytes)) = some (some (.agg #[.int .i64 0, .int .i64 0, .int .i64 0]), 3, 24)) (hgd : o.guard = none) (s x : Operand)
    (ho : o.op = .call { callee := .builtin .append, args := #[s, x], argTypes := #[tt, tt] })
    {base : Nat} {v : Value} {l : List T3} (hs : a.eval s = v) (hown : OwnT w base t v l) {ad : Addr} {c : Nat} {e : T3} (hx : a.eval x = .slice (some ad) 1 c) (h3 : Three w ad e) (hn : l.length + 1 ≤ 1000000) (hb : base ≤ w.heap.size)
    (h : ∀ v' w', OwnT w' base t v' (l ++ [e]) → w.grownBy w' v.ownBlock → K (a.put o.dst v') w') :
    if Region.wanted o (yielded ops a.tmps) = true then Oper.wp Tryz.prog o a w K Q else E := by
  obtain ⟨i0, hi, hz0, hz1, hz2⟩ := info_parts hinfo
  have hw : Region.wanted o (yielded ops a.tmps) = true := by simp [Region.wanted, hgd]
  rw [if_pos hw]
  refine wp_append_own w s x tt ho base t i0 _ 3 24 hu hi hz0 hz1 hz2 rfl (by omega) v l.length (cellsT l) hs hown ad 1 c (cellsT [e]) hx rfl h3.cells (cellsT_one [e]) (by unfold maxLen; omega) (by omega) hb ?_
  intro v' w' h1 h2 _
  refine h v' w' ?_ h2
  unfold OwnT
  rw [cellsT_append, List.length_append]
  exact h1

/-- The slice v is the call's own and holds the programs ps, each of them of the call's own. -/
def OwnP (w : World) (base : Nat) (v : Value) (ps : List (List T3)) : Prop :=
  ∃ vs : List Value, vs.length = ps.length ∧ w.ownsRow base 81 1 v ps.length vs ∧ ∀ i, i < ps.length → OwnT w base 84 (vs.getD i (.slice none 0 0)) (ps.getD i [])
theorem OwnP.nil (w : World) (base : Nat) : OwnP w base (.slice none 0 0) [] := ⟨[], rfl, World.ownsRow_nil w base _ _, fun i hi => by simp at hi⟩
theorem OwnP.lt {w : World} {base : Nat} {v : Value} {ps : List (List T3)} (h : OwnP w base v ps) : ∀ k, v.ownBlock = some k → base ≤ k ∧ k < w.heap.size := by
  obtain ⟨vs, _, h2, _⟩ := h
  exact World.ownsRow.lt h2
theorem OwnP.fr {w w' : World} {base : Nat} {v : Value} {ps : List (List T3)} {S : List Nat} (h : OwnP w base v ps) (hb : Fr S w w') (hS : ∀ s, s ∈ S → s < base) : OwnP w' base v ps := by
  obtain ⟨vs, h1, h2, h3⟩ := h
  refine ⟨vs, h1, ⟨h2.1, ?_⟩, fun i hi => (h3 i hi).fr hb hS⟩
  rcases h2.2 with h2 | ⟨g, cap, cur, rfl, h2, hg, rest⟩
  · exact .inl h2
  · exact .inr ⟨g, cap, cur, rfl, h2, (hb.block g (Array.getElem?_eq_some_iff.1 hg).1 (fun hm => by have := hS g hm; omega)).trans hg, rest⟩
theorem OwnP.below {w w' : World} {base : Nat} {v : Value} {ps : List (List T3)} (h : OwnP w base v ps) (hb : Below w.heap.size w w') : OwnP w' base v ps := h.fr (S := []) (Fr.old hb) (fun s hs => by cases hs)
theorem OwnP.alloc {w : World} {base : Nat} {v : Value} {ps : List (List T3)} (h : OwnP w base v ps) (o : Obj) : OwnP (w.alloc o) base v ps := h.below (below_one w o)
theorem OwnP.form {w : World} {base : Nat} {v : Value} {ps : List (List T3)} (h : OwnP w base v ps) : ∃ a c, v = .slice a ps.length c ∧ Prgs w base a ps.length ps ∧ ps.length ≤ c := by
  obtain ⟨vs, h1, h2, h3⟩ := h
  rcases h2.2 with ⟨rfl, h4⟩ | ⟨g, cap, cur, rfl, h4, hg, hn, hc, _, _⟩
  · have : ps = [] := List.eq_nil_of_length_eq_zero h4
    subst this
    exact ⟨none, 0, rfl, prgs_nil _ _ _, Nat.le_refl _⟩
  · refine ⟨_, cap, rfl, ⟨rfl, Nat.le_trans hn hc, fun i hi => ?_⟩, hn⟩
    obtain ⟨b, c, e, ht, _⟩ := (h3 i hi).form
    refine ⟨_, b, _, c, rfl, h4, (Array.getElem?_eq_some_iff.1 hg).1, ?_, ht⟩
    refine World.ownsRow.cells h2 rfl _ _ ?_
    have hi' : i < vs.length := by omega
    rw [← e, List.getD_eq_getElem?_getD, List.getElem?_eq_getElem hi']
    rfl
theorem OwnP.formN {w : World} {base : Nat} {v : Value} {ps : List (List T3)} {n : Nat} (h : OwnP w base v ps) (hn : ps.length = n) : ∃ a c, v = .slice a n c ∧ Prgs w base a n ps ∧ n ≤ c := by
  subst hn
  exact h.form
/-- Appending a program. -/
theorem ownP_app {w w' : World} {base : Nat} {v v' vp : Value} {ps : List (List T3)} {p : List T3} {vs : List Value} (h1 : vs.length = ps.length) (h2 : w.ownsRow base 81 1 v ps.length vs)
    (h3 : ∀ i, i < ps.length → OwnT w base 84 (vs.getD i (.slice none 0 0)) (ps.getD i [])) (hp : OwnT w base 84 vp p) (hg : w.grownBy w' v.ownBlock)
    (ho : w'.ownsRow base 81 1 v' (ps.length + 1) (vs ++ [vp])) : OwnP w' base v' (ps ++ [p]) := by
  have keep : ∀ vq q, OwnT w base 84 vq q → OwnT w' base 84 vq q := by
    intro vq q hq
    refine ⟨hq.1, ?_⟩
    rcases hq.2 with h4 | ⟨g, cap, cur, rfl, h4, hgg, rest⟩
    · exact .inl h4
    · refine .inr ⟨g, cap, cur, rfl, h4, (hg.block g (Array.getElem?_eq_some_iff.1 hgg).1 (fun e => ?_)).trans hgg, rest⟩
      rcases h2.2 with ⟨rfl, _⟩ | ⟨g2, cap2, cur2, rfl, _, hg2, _⟩
      · simp [Value.ownBlock] at e
      · simp [Value.ownBlock] at e
        subst e
        rw [hgg] at hg2
        cases hg2
  refine ⟨vs ++ [vp], by simp [h1], by simpa using ho, fun i hi => ?_⟩
  by_cases hin : i < ps.length
  · have e1 : (vs ++ [vp]).getD i (.slice none 0 0) = vs.getD i (.slice none 0 0) := by
      rw [List.getD_eq_getElem?_getD, List.getD_eq_getElem?_getD, List.getElem?_append_left (by omega)]
    have e2 : (ps ++ [p]).getD i [] = ps.getD i [] := by
      rw [List.getD_eq_getElem?_getD, List.getD_eq_getElem?_getD, List.getElem?_append_left (by omega)]
    rw [e1, e2]
    exact keep _ _ (h3 i hin)
  · have hie : i = ps.length := by
      simp at hi
      omega
    subst hie
    have e1 : (vs ++ [vp]).getD ps.length (.slice none 0 0) = vp := by
      rw [List.getD_eq_getElem?_getD, List.getElem?_append_right (by omega), h1, Nat.sub_self]
      rfl
    have e2 : (ps ++ [p]).getD ps.length [] = p := by
      rw [List.getD_eq_getElem?_getD, List.getElem?_append_right (by omega), Nat.sub_self]
      rfl
    rw [e1, e2]
    exact keep _ _ hp
theorem wpList_appP {w : World} {ops : Array Oper} {rest : List Oper} {o : Oper} {a : Act} {Q : Exit → Act → World → Prop} (hgd : o.guard = none) (s x : Operand)
    (ho : o.op = .call { callee := .builtin .append, args := #[s, x], argTypes := #[27, 27] })
    {base : Nat} {v : Value} {ps : List (List T3)} (hs : a.eval s = v) (hown : OwnP w base v ps) {ad : Addr} {c : Nat} {vp : Value} {p : List T3} (hx : a.eval x = .slice (some ad) 1 c) (hc : w.cell? (ad.add 0) = some vp) (hp : OwnT w base 84 vp p) (hn : ps.length + 1 ≤ 1000000) (hb : base ≤ w.heap.size)
    (h : ∀ v' w', OwnP w' base v' (ps ++ [p]) → w.grownBy w' v.ownBlock → (v'.ownBlock = v.ownBlock ∨ v'.ownBlock = some w.heap.size) → wpList Tryz.prog ops Q rest (a.put o.dst v') w') :
    wpList Tryz.prog ops Q (o :: rest) a w := by
  obtain ⟨i0, hi, hz0, hz1, hz2⟩ := info_parts info_code
  obtain ⟨vs, h1, h2, h3⟩ := hown
  obtain ⟨pa, pc, rfl, _⟩ := hp.form
  refine wpList_append_own_at w hgd s x 27 ho base 81 i0 _ 1 24 Tryz.underlying27 hi hz0 hz1 hz2 rfl (by omega) v ps.length vs hs h2 ad 1 c [.slice pa p.length pc] hx rfl ?_ ?_ (by unfold maxLen; omega) (by omega) hb ?_
  · intro j u hu
    match j, hu with
    | 0, hu => exact hc.trans hu
    | j + 1, hu => simp at hu
  · intro u hu
    simp at hu
    subst hu
    rfl
  · intro v' w' g1 g2 _ g4
    exact h v' w' (ownP_app h1 h2 h3 hp g2 g1) g2 g4
end Go.Proofs.YtgipddeldddbnaaGreat
