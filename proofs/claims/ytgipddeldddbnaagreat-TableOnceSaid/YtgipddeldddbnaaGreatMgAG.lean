/-
  Events as plain data.
  Slices of ints of the call's own: appends, what they read as.
  Records and events as rows of the call's own: what keeps them, reading and writing one. No function is named.
-/
import Derived.Test.YtgipddeldddbnaaGreatMgAA
import Derived.Test.YtgipddeldddbnaaGreatCfOwn
namespace Go.Proofs.YtgipddeldddbnaaGreat
open Go Go.RowKit
set_option linter.unusedSimpArgs false

/-- An event. -/
structure Ev where
  kd : Int
  wk : Int
  tk : Int
  ot : Int
  lv : Int
  deriving DecidableEq
abbrev evV (e : Ev) : Array Value := #[.int .i64 e.kd, .int .i64 e.wk, .int .i64 e.tk, .int .i64 e.ot, .int .i64 e.lv]
def cellsV : List Ev → List Value
  | [] => []
  | e :: r => .int .i64 e.kd :: .int .i64 e.wk :: .int .i64 e.tk :: .int .i64 e.ot :: .int .i64 e.lv :: cellsV r
theorem cellsV_length : ∀ l : List Ev, (cellsV l).length = l.length * 5
  | [] => rfl
  | e :: r => by
    simp only [cellsV, List.length_cons, cellsV_length r]
    omega
theorem cellsV_append : ∀ a b : List Ev, cellsV (a ++ b) = cellsV a ++ cellsV b
  | [], _ => rfl
  | e :: r, b => by simp [cellsV, cellsV_append r b]
theorem cellsV_one (l : List Ev) : ∀ u ∈ cellsV l, u.oneCell' = true := by
  induction l with
  | nil => intro u hu; cases hu
  | cons e r ih =>
    intro u hu
    simp only [cellsV, List.mem_cons] at hu
    rcases hu with rfl | rfl | rfl | rfl | rfl | hu
    · rfl
    · rfl
    · rfl
    · rfl
    · rfl
    · exact ih u hu
/-- Cell j of element i. -/
theorem cellsV_at : ∀ (l : List Ev) (i j : Nat) (e : Ev), l[i]? = some e → j < 5 → (cellsV l)[i * 5 + j]? = (evV e)[j]?
  | [], _, _, _, h, _ => by simp at h
  | x :: r, 0, j, e, h, hj => by
    simp only [List.getElem?_cons_zero, Option.some.injEq] at h
    subst h
    match j, hj with
    | 0, _ => rfl
    | 1, _ => rfl
    | 2, _ => rfl
    | 3, _ => rfl
    | 4, _ => rfl
    | j + 5, hj => omega
  | x :: r, i + 1, j, e, h, hj => by
    have := cellsV_at r i j e (by simpa using h) hj
    rw [show (i + 1) * 5 + j = i * 5 + j + 1 + 1 + 1 + 1 + 1 by omega]
    simpa [cellsV] using this
/-- A row of events of the call's own. -/
def OwnE (w : World) (base : Nat) (v : Value) (l : List Ev) : Prop := w.ownsRow base 48 5 v l.length (cellsV l)
end Go.Proofs.YtgipddeldddbnaaGreat

namespace Go.Proofs.YtgipddeldddbnaaGreat
open Go Go.RowKit

theorem info_int : (Tryz.prog.info? 3).map (fun i => (i.zero, i.size, i.bytes)) = some (some (.int .i64 0), 1, 8) := by kernel_rfl

/-- The slice v is the call's own (nil, or a row from block base on) and holds the numbers l. -/
def OwnI (w : World) (base : Nat) (v : Value) (l : List Int) : Prop := w.ownsRow base 3 1 v l.length (l.map (Value.int .i64))
theorem OwnI.nil (w : World) (base : Nat) : OwnI w base (.slice none 0 0) [] := World.ownsRow_nil w base _ _
theorem OwnI.lt {w : World} {base : Nat} {v : Value} {l : List Int} (h : OwnI w base v l) : ∀ k, v.ownBlock = some k → base ≤ k ∧ k < w.heap.size := World.ownsRow.lt h
theorem OwnI.below {w w' : World} {base : Nat} {v : Value} {l : List Int} (h : OwnI w base v l) (hb : Below w.heap.size w w') : OwnI w' base v l := by
  refine ⟨h.1, ?_⟩
  rcases h.2 with h2 | ⟨g, cap, cur, rfl, h2, hg, rest⟩
  · exact .inl h2
  · exact .inr ⟨g, cap, cur, rfl, h2, (hb.block g (Array.getElem?_eq_some_iff.1 hg).1).trans hg, rest⟩
theorem OwnI.alloc {w : World} {base : Nat} {v : Value} {l : List Int} (h : OwnI w base v l) (o : Obj) : OwnI (w.alloc o) base v l := h.below (below_one w o)
/-- A literal. -/
theorem OwnI.lit (w : World) (base : Nat) (l : List Int) (hb : base ≤ w.heap.size) (hm : l.length ≤ maxLen) : OwnI (w.alloc (.cells (l.map (Value.int .i64)).toArray 3)) base (.slice (some ⟨w.heap.size, 0, none⟩) l.length l.length) l := by
  have := World.ownsRow_lit (base := base) (e := 3) (size := 1) w (l.map (Value.int .i64)).toArray l.length hb hm (by simp)
  simpa [OwnI] using this
/-- Its form, and what it reads as. -/
theorem OwnI.form {w : World} {base : Nat} {v : Value} {l : List Int} (h : OwnI w base v l) : ∃ a c, v = .slice a l.length c ∧ l.length ≤ c ∧ ∀ i, i < l.length → ∃ g, a = some ⟨g, 0, none⟩ ∧ w.cell? ⟨g, i, none⟩ = some (.int .i64 (l.getD i 0)) := by
  rcases h.2 with ⟨rfl, h2⟩ | ⟨g, cap, cur, rfl, h2, hg, hn, hc, hz, ht⟩
  · refine ⟨none, 0, by rw [h2], by omega, fun i hi => by omega⟩
  · refine ⟨_, cap, rfl, hn, fun i hi => ⟨g, rfl, ?_⟩⟩
    rw [cell_of_row w g i cur _ (0, 0) hg]
    have h3 : (cur.toList.take (l.length * 1))[i]? = some (.int .i64 (l.getD i 0)) := by
      rw [ht, List.getElem?_map, List.getD_eq_getElem?_getD, List.getElem?_eq_getElem hi]
      rfl
    rw [List.getElem?_take, if_pos (by omega), Array.getElem?_toList] at h3
    exact h3
/-- .. where it is not empty. -/
theorem OwnI.at0 {w : World} {base : Nat} {v : Value} {l : List Int} (h : OwnI w base v l) (hl : 0 < l.length) : ∃ g c, v = .slice (some ⟨g, 0, none⟩) l.length c := by
  obtain ⟨a, c, e, _, h1⟩ := h.form
  obtain ⟨g, rfl, _⟩ := h1 0 hl
  exact ⟨g, c, e⟩
theorem OwnI.cellAt {w : World} {base g c : Nat} {l : List Int} (h : OwnI w base (.slice (some ⟨g, 0, none⟩) l.length c) l) {i : Nat} (hi : i < l.length) : w.cell? ⟨g, i, none⟩ = some (.int .i64 (l.getD i 0)) := by
  obtain ⟨a, c', e, _, h1⟩ := h.form
  obtain ⟨g', rfl, h2⟩ := h1 i hi
  cases e
  exact h2
theorem ints_one (l : List Int) : ∀ u ∈ l.map (Value.int .i64), u.oneCell' = true := by
  intro u hu
  obtain ⟨x, _, rfl⟩ := List.mem_map.1 hu
  rfl
/-- Numbers in a row of their own, as an append wants them. -/
theorem ints_new (w : World) (l : List Int) : ∀ j u, (l.map (Value.int .i64))[j]? = some u → (w.alloc (.cells (l.map (Value.int .i64)).toArray 3)).cell? ((⟨w.heap.size, 0, none⟩ : Addr).add j) = some u := by
  intro j u hu
  have hB := Blk.made w 3 (l.map (Value.int .i64)).toArray
  have e : (⟨w.heap.size, 0, none⟩ : Addr).add j = ⟨w.heap.size, j, none⟩ := by unfold Addr.add; split <;> simp_all
  rw [e, hB.at_, List.getElem?_toArray]
  exact hu

/-- An append at the operation, for the walk. -/
theorem wpList_appI {w : World} {ops : Array Oper} {rest : List Oper} {o : Oper} {a : Act} {Q : Exit → Act → World → Prop} (hgd : o.guard = none) (s x : Operand)
    (ho : o.op = .call { callee := .builtin .append, args := #[s, x], argTypes := #[49, 49] })
    {base : Nat} {v : Value} {l : List Int} (hs : a.eval s = v) (hown : OwnI w base v l) {ad : Addr} {m c : Nat} {ns : List Int} (hx : a.eval x = .slice (some ad) m c) (hl : ns.length = m)
    (hnews : ∀ j u, (ns.map (Value.int .i64))[j]? = some u → w.cell? (ad.add j) = some u) (hn : l.length + m ≤ 1000000) (hb : base ≤ w.heap.size)
    (h : ∀ v' w', OwnI w' base v' (l ++ ns) → w.grownBy w' v.ownBlock → wpList Tryz.prog ops Q rest (a.put o.dst v') w') :
    wpList Tryz.prog ops Q (o :: rest) a w := by
  obtain ⟨i0, hi, hz0, hz1, hz2⟩ := info_parts info_int
  refine wpList_append_own_at w hgd s x 49 ho base 3 i0 _ 1 8 Tryz.underlying49 hi hz0 hz1 hz2 rfl (by omega) v l.length (l.map (Value.int .i64)) hs hown ad m c (ns.map (Value.int .i64)) hx (by simpa using hl) hnews (ints_one ns) (by unfold maxLen; omega) (by omega) hb ?_
  intro v' w' h1 h2 _ _
  refine h v' w' ?_ h2
  unfold OwnI
  rw [List.map_append, List.length_append, hl]
  exact h1

/-- .. as one step of a region that draws its order. -/
theorem wp_appI {w : World} {o : Oper} {a : Act} {K : Act → World → Prop} {Q : Exit → Act → World → Prop} (s x : Operand)
    (ho : o.op = .call { callee := .builtin .append, args := #[s, x], argTypes := #[49, 49] })
    {base : Nat} {v : Value} {l : List Int} (hs : a.eval s = v) (hown : OwnI w base v l) {ad : Addr} {m c : Nat} {ns : List Int} (hx : a.eval x = .slice (some ad) m c) (hl : ns.length = m)
    (hnews : ∀ j u, (ns.map (Value.int .i64))[j]? = some u → w.cell? (ad.add j) = some u) (hn : l.length + m ≤ 1000000) (hb : base ≤ w.heap.size)
    (h : ∀ v' w', OwnI w' base v' (l ++ ns) → w.grownBy w' v.ownBlock → K (a.put o.dst v') w') : Oper.wp Tryz.prog o a w K Q := by
  obtain ⟨i0, hi, hz0, hz1, hz2⟩ := info_parts info_int
  refine wp_append_own w s x 49 ho base 3 i0 _ 1 8 Tryz.underlying49 hi hz0 hz1 hz2 rfl (by omega) v l.length (l.map (Value.int .i64)) hs hown ad m c (ns.map (Value.int .i64)) hx (by simpa using hl) hnews (ints_one ns) (by unfold maxLen; omega) (by omega) hb ?_
  intro v' w' h1 h2 _
  refine h v' w' ?_ h2
  unfold OwnI
  rw [List.map_append, List.length_append, hl]
  exact h1
/-- A block of another type stays as it was when the row grows. -/
theorem Blk.appI {w w' : World} {base g : Nat} {t : TypeId} {cs : Array Value} {v : Value} {l : List Int} (h : Blk w g t cs) (hown : OwnI w base v l) (hg : w.grownBy w' v.ownBlock) (ht : t ≠ 3 ∨ g < base) : Blk w' g t cs := by
  refine h.grown hg fun e => ?_
  rcases ht with ht | ht
  · rcases hown.2 with ⟨rfl, _⟩ | ⟨k, cap, cur, rfl, _, hk, _⟩
    · cases e
    · simp only [Value.ownBlock, Option.some.injEq] at e
      subst e
      unfold Blk at h
      rw [hk] at h
      simp only [Option.some.injEq, Obj.cells.injEq] at h
      exact ht h.2.1.symm
  · have := (hown.lt g e).1
    omega
theorem below_appI {w0 w w' : World} {base : Nat} {v : Value} {l : List Int} (hb : Below w0.heap.size w0 w) (h : OwnI w base v l) (hB : w0.heap.size ≤ base) (hg : w.grownBy w' v.ownBlock) : Below w0.heap.size w0 w' :=
  ⟨hg.os.trans hb.os, hg.tape.trans hb.tape, hg.output.trans hb.output, Nat.le_trans hb.size hg.size, fun k hk => (hg.block k (Nat.lt_of_lt_of_le hk hb.size) (fun e => by
    have := (h.lt k e.symm).1
    omega)).trans (hb.block k hk)⟩
end Go.Proofs.YtgipddeldddbnaaGreat

namespace Go.Proofs.YtgipddeldddbnaaGreat
open Go Go.RowKit
set_option linter.unusedSimpArgs false

/-- A row of the call's own, of any element type, stays one while its block does. -/
theorem row_same {w w' : World} {base : Nat} {t : TypeId} {s : Nat} {v : Value} {n : Nat} {vs : List Value} (h : w.ownsRow base t s v n vs) (hk : ∀ k, v.ownBlock = some k → w'.heap[k]? = w.heap[k]?) : w'.ownsRow base t s v n vs := by
  refine ⟨h.1, ?_⟩
  rcases h.2 with h4 | ⟨g, cap, cur, rfl, h4, hg, rest⟩
  · exact .inl h4
  · exact .inr ⟨g, cap, cur, rfl, h4, (hk g rfl).trans hg, rest⟩
/-- Its block is no block of another type. -/
theorem row_apart {w : World} {base : Nat} {t : TypeId} {s : Nat} {v : Value} {n : Nat} {vs : List Value} (h : w.ownsRow base t s v n vs) {g : Nat} {cs : Array Value} {t' : TypeId} {fr : Nat × Nat} (hg : w.heap[g]? = some (Obj.cells cs t' fr)) (hne : t ≠ t') : ∀ k, v.ownBlock = some k → k ≠ g := by
  intro k hk e
  subst e
  rcases h.2 with ⟨rfl, _⟩ | ⟨g2, cap, cur, rfl, _, hg2, _⟩
  · simp [Value.ownBlock] at hk
  · simp [Value.ownBlock] at hk
    subst hk
    rw [hg2] at hg
    simp only [Option.some.injEq, Obj.cells.injEq] at hg
    exact hne hg.2.1

/-- A record. -/
structure Rec where
  pg : Int
  pt : Int
  pc : Int
  lf : Int
  wt : Int
  ks : List Int
  st : Bool
def cellsR : List Rec → List Value → List Value
  | [], _ => []
  | r :: l, vs => .int .i64 r.pg :: .int .i64 r.pt :: .int .i64 r.pc :: .int .i64 r.lf :: .int .i64 r.wt :: vs.headD (.slice none 0 0) :: .bool r.st :: cellsR l vs.tail
theorem cellsR_length : ∀ (l : List Rec) (vs : List Value), (cellsR l vs).length = l.length * 7
  | [], _ => rfl
  | e :: r, vs => by
    simp only [cellsR, List.length_cons, cellsR_length r]
    omega
def OwnR (w : World) (base : Nat) (v : Value) (l : List Rec) : Prop :=
  ∃ ks : List Value, ks.length = l.length ∧ w.ownsRow base 51 7 v l.length (cellsR l ks) ∧ ∀ i, i < l.length → OwnI w base (ks.getD i (.slice none 0 0)) ((l.map Rec.ks).getD i [])

section
variable {B : Nat} {w w' : World} {es : List Ev} {rs : List Rec}
theorem OwnI.apart {v : Value} {l : List Int} (h : OwnI w B v l) {g : Nat} {cs : Array Value} {t' : TypeId} {fr : Nat × Nat} (hg : w.heap[g]? = some (Obj.cells cs t' fr)) (hne : 3 ≠ t') : ∀ k, v.ownBlock = some k → k ≠ g := row_apart h hg hne
theorem OwnR.same {v : Value} (h : OwnR w B v rs) (hk : ∀ (k : Nat) (cs : Array Value) (t : TypeId), w.heap[k]? = some (Obj.cells cs t (0, 0)) → (t = 51 ∨ t = 3) → w'.heap[k]? = w.heap[k]?) : OwnR w' B v rs := by
  obtain ⟨ks, h1, h2, h3⟩ := h
  have row : ∀ {t : TypeId} {sz n : Nat} {u : Value} {xs : List Value}, (t = 51 ∨ t = 3) → w.ownsRow B t sz u n xs → w'.ownsRow B t sz u n xs := by
    intro t sz n u xs ht hr
    refine ⟨hr.1, ?_⟩
    rcases hr.2 with h4 | ⟨g, cap, cur, rfl, h4, hg, rest⟩
    · exact .inl h4
    · exact .inr ⟨g, cap, cur, rfl, h4, (hk g cur t hg ht).trans hg, rest⟩
  exact ⟨ks, h1, row (.inl rfl) h2, fun i hi => row (.inr rfl) (h3 i hi)⟩
theorem OwnE.same {v : Value} (h : OwnE w B v es) (hk : ∀ (k : Nat) (cs : Array Value), w.heap[k]? = some (Obj.cells cs 48 (0, 0)) → w'.heap[k]? = w.heap[k]?) : OwnE w' B v es := by
  refine ⟨h.1, ?_⟩
  rcases h.2 with h4 | ⟨g, cap, cur, rfl, h4, hg, rest⟩
  · exact .inl h4
  · exact .inr ⟨g, cap, cur, rfl, h4, (hk g cur hg).trans hg, rest⟩
end

abbrev zrec : Rec := ⟨0, 0, 0, 0, 0, [], false⟩
/-- The cells of a record. -/
abbrev rcl (r : Rec) (k : Value) : List Value := [.int .i64 r.pg, .int .i64 r.pt, .int .i64 r.pc, .int .i64 r.lf, .int .i64 r.wt, k, .bool r.st]
theorem cellsR_at : ∀ (l : List Rec) (ks : List Value) (i j : Nat), i < l.length → ks.length = l.length → j < 7 → (cellsR l ks)[i * 7 + j]? = (rcl (l.getD i zrec) (ks.getD i (.slice none 0 0)))[j]?
  | [], _, _, _, h, _, _ => absurd h (by simp)
  | e :: r, [], _, _, _, h, _ => by simp at h
  | e :: r, k :: ks, 0, j, _, _, hj => by
    match j, hj with
    | 0, _ => rfl
    | 1, _ => rfl
    | 2, _ => rfl
    | 3, _ => rfl
    | 4, _ => rfl
    | 5, _ => rfl
    | 6, _ => rfl
    | j + 7, hj => omega
  | e :: r, k :: ks, i + 1, j, h, hk, hj => by
    have := cellsR_at r ks i j (by simpa using h) (by simpa using hk) hj
    rw [show (i + 1) * 7 + j = i * 7 + j + 1 + 1 + 1 + 1 + 1 + 1 + 1 by omega]
    simpa [cellsR] using this
theorem cellsR_set : ∀ (l : List Rec) (ks : List Value) (i j : Nat) (u : Value) (r' : Rec) (k' : Value), i < l.length → ks.length = l.length → j < 7 → rcl r' k' = (rcl (l.getD i zrec) (ks.getD i (.slice none 0 0))).set j u → (cellsR l ks).set (i * 7 + j) u = cellsR (l.set i r') (ks.set i k')
  | [], _, _, _, _, _, _, h, _, _, _ => absurd h (by simp)
  | e :: r, [], _, _, _, _, _, _, h, _, _ => by simp at h
  | e :: r, k :: ks, 0, j, u, r', k', _, _, hj, hr => by
    have e1 : cellsR (e :: r) (k :: ks) = rcl e k ++ cellsR r ks := rfl
    have e2 : cellsR ((e :: r).set 0 r') ((k :: ks).set 0 k') = rcl r' k' ++ cellsR r ks := rfl
    have e3 : rcl r' k' = (rcl e k).set j u := hr
    rw [e1, e2, e3, Nat.zero_mul, Nat.zero_add, List.set_append_left _ _ (by simpa using hj)]
  | e :: r, k :: ks, i + 1, j, u, r', k', h, hk, hj, hr => by
    have := cellsR_set r ks i j u r' k' (by simpa using h) (by simpa using hk) hj (by simpa using hr)
    rw [show (i + 1) * 7 + j = i * 7 + j + 1 + 1 + 1 + 1 + 1 + 1 + 1 by omega]
    simpa [cellsR] using this

/-- A cell of a row at a letter's place, as the walk spells it. -/
theorem add_cell (x : Addr) (hx : x.off = 0 ∧ x.spot = none) (i j : Nat) : (⟨(x.add i).block, (x.add i).off + j, none⟩ : Addr) = ⟨x.block, i + j, none⟩ := by
  obtain ⟨b, o, s⟩ := x
  obtain ⟨rfl, rfl⟩ := hx
  unfold Addr.add
  by_cases h : i = 0
  · subst h
    simp
  · rw [if_neg h]
    simp
theorem add_head (x : Addr) (hx : x.off = 0 ∧ x.spot = none) (i : Nat) : x.add i = ⟨x.block, i, none⟩ := by
  obtain ⟨b, o, s⟩ := x
  obtain ⟨rfl, rfl⟩ := hx
  unfold Addr.add
  by_cases h : i = 0
  · subst h
    rfl
  · rw [if_neg h]
    simp
/-- Where the records lie. -/
theorem OwnR.form {w : World} {B : Nat} {v : Value} {rs : List Rec} (h : OwnR w B v rs) : ∃ x c, v = .slice x rs.length c := by
  obtain ⟨ks, _, h2, _⟩ := h
  rcases h2.2 with ⟨rfl, h3⟩ | ⟨g, cap, cur, rfl, _⟩
  · rw [h3]
    exact ⟨_, _, rfl⟩
  · exact ⟨_, _, rfl⟩
theorem OwnR.at_ {w : World} {B : Nat} {v : Value} {rs : List Rec} (h : OwnR w B v rs) {i : Nat} (hi : i < rs.length) :
    ∃ (x : Addr) (c : Nat) (k : Value), v = .slice (some x) rs.length c ∧ (x.off = 0 ∧ x.spot = none) ∧ B ≤ x.block ∧ OwnI w B k (rs.getD i zrec).ks ∧
      (∀ j, j < 7 → w.cell? ⟨x.block, i * 7 + j, none⟩ = (rcl (rs.getD i zrec) k)[j]?) ∧ (∀ j, w.frozen? ⟨x.block, j, none⟩ = false) ∧ ∃ cs, Blk w x.block 51 cs := by
  obtain ⟨ks, h1, h2, h3⟩ := h
  rcases h2.2 with ⟨rfl, h4⟩ | ⟨g, cap, cur, rfl, hB, hg, hn, hm, hs, ht⟩
  · omega
  · refine ⟨⟨g, 0, none⟩, cap, ks.getD i (.slice none 0 0), rfl, ⟨rfl, rfl⟩, hB, ?_, fun j hj => ?_, fun j => World.ownsRow.frozenAt h2 j, cur, hg⟩
    · have := h3 i hi
      have e : (rs.map Rec.ks).getD i [] = (rs.getD i zrec).ks := by
        rw [List.getD_eq_getElem?_getD, List.getD_eq_getElem?_getD, List.getElem?_map, List.getElem?_eq_getElem hi]
        rfl
      rw [e] at this
      exact this
    · have hlen : i * 7 + j < (cellsR rs ks).length := by rw [cellsR_length]; omega
      have e := cellsR_at rs ks i j hi h1 hj
      have hh := World.ownsRow.cells h2 rfl (i * 7 + j) _ (List.getElem?_eq_getElem hlen)
      rw [add_head _ ⟨rfl, rfl⟩, ← List.getElem?_eq_getElem hlen, e] at hh
      exact hh
/-- A number of a record is stored. -/
theorem OwnR.put {w : World} {B : Nat} {x : Addr} {n c : Nat} {rs : List Rec} (h : OwnR w B (.slice (some x) n c) rs) {i j : Nat} (hi : i < rs.length) (hj : j < 7) (u : Value) (r' : Rec)
    (hr : ∀ k, rcl r' k = (rcl (rs.getD i zrec) k).set j u) (hks : r'.ks = (rs.getD i zrec).ks) : OwnR (w.setCell ⟨x.block, i * 7 + j, none⟩ u) B (.slice (some x) n c) (rs.set i r') := by
  obtain ⟨ks, h1, h2, h3⟩ := h
  rcases h2.2 with ⟨h4, _⟩ | ⟨g, cap, cur, hv, hB, hg, hn, hm, hs, ht⟩
  · cases h4
  · simp only [Value.slice.injEq, Option.some.injEq] at hv
    obtain ⟨rfl, rfl, rfl⟩ := hv
    have hst := (World.ownsRow.stored h2 (i * 7 + j) u).1
    have hset := cellsR_set rs ks i j u r' (ks.getD i (.slice none 0 0)) hi h1 hj (hr _)
    have hks' : ks.set i (ks.getD i (.slice none 0 0)) = ks := by
      apply List.ext_getElem?
      intro q
      rw [List.getElem?_set]
      by_cases e : i = q
      · subst e
        have : i < ks.length := by omega
        simp [this]
      · simp [e]
    rw [hset, hks'] at hst
    refine ⟨ks, by simp [h1], by simpa using hst, fun q hq => ?_⟩
    have hq' : q < rs.length := by simpa using hq
    have hold := h3 q hq'
    have e2 : ((rs.set i r').map Rec.ks).getD q [] = (rs.map Rec.ks).getD q [] := by
      rw [List.getD_eq_getElem?_getD, List.getD_eq_getElem?_getD, List.getElem?_map, List.getElem?_map, List.getElem?_set]
      by_cases e : i = q
      · subst e
        rw [if_pos rfl]
        simp only [hi, if_true, Option.map_some]
        rw [hks, List.getD_eq_getElem?_getD, List.getElem?_eq_getElem hi]
        rfl
      · rw [if_neg e]
    rw [e2]
    refine ⟨hold.1, ?_⟩
    rcases hold.2 with h6 | ⟨g2, cap2, cur2, e3, h6, hg2, rest⟩
    · exact .inl h6
    · refine .inr ⟨g2, cap2, cur2, e3, h6, (Below.heap_setCell w ⟨g, i * 7 + j, none⟩ u g2 (fun e => ?_)).trans hg2, rest⟩
      have e4 : g2 = g := e
      subst e4
      rw [hg] at hg2
      simp only [Option.some.injEq, Obj.cells.injEq] at hg2
      exact absurd hg2.2.1 (by decide)
end Go.Proofs.YtgipddeldddbnaaGreat
