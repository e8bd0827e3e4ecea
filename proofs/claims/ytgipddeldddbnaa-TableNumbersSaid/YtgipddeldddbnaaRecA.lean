/-
  Records and events as rows of the call's own: what keeps them, reading and writing one. No function is named.
-/
import Derived.Test.YtgipddeldddbnaaCfOwn
import Derived.Test.YtgipddeldddbnaaMgAI
namespace Go.Proofs.Ytgipddeldddbnaa
open Go Go.RowKit
set_option linter.unusedSimpArgs false

/-- A row of the call's own, of any element type, stays one while its block does. -/
theorem row_same {w w' : World} {base : Nat} {t : TypeId} {s : Nat} {v : Value} {n : Nat} {vs : List Value} (h : w.ownsRow base t s v n vs) (hk : ∀ k, v.ownBlock = some k → w'.heap[k]? = w.heap[k]?) : w'.ownsRow base t s v n vs := by
  refine ⟨h.1, ?_⟩
  rcases h.2 with h4 | ⟨g, cap, cur, rfl, h4, hg, rest⟩
  · exact .inl h4
  · exact .inr ⟨g, cap, cur, rfl, h4, (hk g rfl).trans hg, rest⟩
/-- Its block is no block of another type. -/
theorem row_apart {w : World} {base : Nat} {t : TypeId} {s : Nat} {v : Value} {n : Nat} {vs : List Value} (h : w.ownsRow base t s v n vs) {g : Nat} {cs : Array Value} {t' : TypeId} {fr : Nat × Nat} (hg : w.heap[g]? = some (Obj.cells cs t' fr)) (hne : t ≠ t') : ∀ k, v.ownBlock = some k → k ≠ g := by
  intro k hk e
  subst e
  rcases h.2 with ⟨rfl, _⟩ | ⟨g2, cap, cur, rfl, _, hg2, _⟩
  · simp [Value.ownBlock] at hk
  · simp [Value.ownBlock] at hk
    subst hk
    rw [hg2] at hg
    simp only [Option.some.injEq, Obj.cells.injEq] at hg
    exact hne hg.2.1

/-- A record. -/
structure Rec where
  pg : Int
  pt : Int
  pc : Int
  lf : Int
  wt : Int
  ks : List Int
  st : Bool
def cellsR : List Rec → List Value → List Value
  | [], _ => []
  | r :: l, vs => .int .i64 r.pg :: .int .i64 r.pt :: .int .i64 r.pc :: .int .i64 r.lf :: .int .i64 r.wt :: vs.headD (.slice none 0 0) :: .bool r.st :: cellsR l vs.tail
theorem cellsR_length : ∀ (l : List Rec) (vs : List Value), (cellsR l vs).length = l.length * 7
  | [], _ => rfl
  | e :: r, vs => by
    simp only [cellsR, List.length_cons, cellsR_length r]
    omega
def OwnR (w : World) (base : Nat) (v : Value) (l : List Rec) : Prop :=
  ∃ ks : List Value, ks.length = l.length ∧ w.ownsRow base 55 7 v l.length (cellsR l ks) ∧ ∀ i, i < l.length → OwnI w base (ks.getD i (.slice none 0 0)) ((l.map Rec.ks).getD i [])

section
variable {B : Nat} {w w' : World} {es : List Ev} {rs : List Rec}
theorem OwnI.apart {v : Value} {l : List Int} (h : OwnI w B v l) {g : Nat} {cs : Array Value} {t' : TypeId} {fr : Nat × Nat} (hg : w.heap[g]? = some (Obj.cells cs t' fr)) (hne : 3 ≠ t') : ∀ k, v.ownBlock = some k → k ≠ g := row_apart h hg hne
theorem OwnR.same {v : Value} (h : OwnR w B v rs) (hk : ∀ (k : Nat) (cs : Array Value) (t : TypeId), w.heap[k]? = some (Obj.cells cs t (0, 0)) → (t = 55 ∨ t = 3) → w'.heap[k]? = w.heap[k]?) : OwnR w' B v rs := by
  obtain ⟨ks, h1, h2, h3⟩ := h
  have row : ∀ {t : TypeId} {sz n : Nat} {u : Value} {xs : List Value}, (t = 55 ∨ t = 3) → w.ownsRow B t sz u n xs → w'.ownsRow B t sz u n xs := by
    intro t sz n u xs ht hr
    refine ⟨hr.1, ?_⟩
    rcases hr.2 with h4 | ⟨g, cap, cur, rfl, h4, hg, rest⟩
    · exact .inl h4
    · exact .inr ⟨g, cap, cur, rfl, h4, (hk g cur t hg ht).trans hg, rest⟩
  exact ⟨ks, h1, row (.inl rfl) h2, fun i hi => row (.inr rfl) (h3 i hi)⟩
theorem OwnE.same {v : Value} (h : OwnE w B v es) (hk : ∀ (k : Nat) (cs : Array Value), w.heap[k]? = some (Obj.cells cs 58 (0, 0)) → w'.heap[k]? = w.heap[k]?) : OwnE w' B v es := by
  refine ⟨h.1, ?_⟩
  rcases h.2 with h4 | ⟨g, cap, cur, rfl, h4, hg, rest⟩
  · exact .inl h4
  · exact .inr ⟨g, cap, cur, rfl, h4, (hk g cur hg).trans hg, rest⟩
end

abbrev zrec : Rec := ⟨0, 0, 0, 0, 0, [], false⟩
/-- The cells of a record. -/
abbrev rcl (r : Rec) (k : Value) : List Value := [.int .i64 r.pg, .int .i64 r.pt, .int .i64 r.pc, .int .i64 r.lf, .int .i64 r.wt, k, .bool r.st]
theorem cellsR_at : ∀ (l : List Rec) (ks : List Value) (i j : Nat), i < l.length → ks.length = l.length → j < 7 → (cellsR l ks)[i * 7 + j]? = (rcl (l.getD i zrec) (ks.getD i (.slice none 0 0)))[j]?
  | [], _, _, _, h, _, _ => absurd h (by simp)
  | e :: r, [], _, _, _, h, _ => by simp at h
  | e :: r, k :: ks, 0, j, _, _, hj => by
    match j, hj with
    | 0, _ => rfl
    | 1, _ => rfl
    | 2, _ => rfl
    | 3, _ => rfl
    | 4, _ => rfl
    | 5, _ => rfl
    | 6, _ => rfl
    | j + 7, hj => omega
  | e :: r, k :: ks, i + 1, j, h, hk, hj => by
    have := cellsR_at r ks i j (by simpa using h) (by simpa using hk) hj
    rw [show (i + 1) * 7 + j = i * 7 + j + 1 + 1 + 1 + 1 + 1 + 1 + 1 by omega]
    simpa [cellsR] using this
theorem cellsR_set : ∀ (l : List Rec) (ks : List Value) (i j : Nat) (u : Value) (r' : Rec) (k' : Value), i < l.length → ks.length = l.length → j < 7 → rcl r' k' = (rcl (l.getD i zrec) (ks.getD i (.slice none 0 0))).set j u → (cellsR l ks).set (i * 7 + j) u = cellsR (l.set i r') (ks.set i k')
  | [], _, _, _, _, _, _, h, _, _, _ => absurd h (by simp)
  | e :: r, [], _, _, _, _, _, _, h, _, _ => by simp at h
  | e :: r, k :: ks, 0, j, u, r', k', _, _, hj, hr => by
    have e1 : cellsR (e :: r) (k :: ks) = rcl e k ++ cellsR r ks := rfl
    have e2 : cellsR ((e :: r).set 0 r') ((k :: ks).set 0 k') = rcl r' k' ++ cellsR r ks := rfl
    have e3 : rcl r' k' = (rcl e k).set j u := hr
    rw [e1, e2, e3, Nat.zero_mul, Nat.zero_add, List.set_append_left _ _ (by simpa using hj)]
  | e :: r, k :: ks, i + 1, j, u, r', k', h, hk, hj, hr => by
    have := cellsR_set r ks i j u r' k' (by simpa using h) (by simpa using hk) hj (by simpa using hr)
    rw [show (i + 1) * 7 + j = i * 7 + j + 1 + 1 + 1 + 1 + 1 + 1 + 1 by omega]
    simpa [cellsR] using this

/-- A cell of a row at a letter's place, as the walk spells it. -/
theorem add_cell (x : Addr) (hx : x.off = 0 ∧ x.spot = none) (i j : Nat) : (⟨(x.add i).block, (x.add i).off + j, none⟩ : Addr) = ⟨x.block, i + j, none⟩ := by
  obtain ⟨b, o, s⟩ := x
  obtain ⟨rfl, rfl⟩ := hx
  unfold Addr.add
  by_cases h : i = 0
  · subst h
    simp
  · rw [if_neg h]
    simp
theorem add_head (x : Addr) (hx : x.off = 0 ∧ x.spot = none) (i : Nat) : x.add i = ⟨x.block, i, none⟩ := by
  obtain ⟨b, o, s⟩ := x
  obtain ⟨rfl, rfl⟩ := hx
  unfold Addr.add
  by_cases h : i = 0
  · subst h
    rfl
  · rw [if_neg h]
    simp
/-- Where the records lie. -/
theorem OwnR.form {w : World} {B : Nat} {v : Value} {rs : List Rec} (h : OwnR w B v rs) : ∃ x c, v = .slice x rs.length c := by
  obtain ⟨ks, _, h2, _⟩ := h
  rcases h2.2 with ⟨rfl, h3⟩ | ⟨g, cap, cur, rfl, _⟩
  · rw [h3]
    exact ⟨_, _, rfl⟩
  · exact ⟨_, _, rfl⟩
theorem OwnR.at_ {w : World} {B : Nat} {v : Value} {rs : List Rec} (h : OwnR w B v rs) {i : Nat} (hi : i < rs.length) :
    ∃ (x : Addr) (c : Nat) (k : Value), v = .slice (some x) rs.length c ∧ (x.off = 0 ∧ x.spot = none) ∧ B ≤ x.block ∧ OwnI w B k (rs.getD i zrec).ks ∧
      (∀ j, j < 7 → w.cell? ⟨x.block, i * 7 + j, none⟩ = (rcl (rs.getD i zrec) k)[j]?) ∧ (∀ j, w.frozen? ⟨x.block, j, none⟩ = false) ∧ ∃ cs, Blk w x.block 55 cs := by
  obtain ⟨ks, h1, h2, h3⟩ := h
  rcases h2.2 with ⟨rfl, h4⟩ | ⟨g, cap, cur, rfl, hB, hg, hn, hm, hs, ht⟩
  · omega
  · refine ⟨⟨g, 0, none⟩, cap, ks.getD i (.slice none 0 0), rfl, ⟨rfl, rfl⟩, hB, ?_, fun j hj => ?_, fun j => World.ownsRow.frozenAt h2 j, cur, hg⟩
    · have := h3 i hi
      have e : (rs.map Rec.ks).getD i [] = (rs.getD i zrec).ks := by
        rw [List.getD_eq_getElem?_getD, List.getD_eq_getElem?_getD, List.getElem?_map, List.getElem?_eq_getElem hi]
        rfl
      rw [e] at this
      exact this
    · have hlen : i * 7 + j < (cellsR rs ks).length := by rw [cellsR_length]; omega
      have e := cellsR_at rs ks i j hi h1 hj
      have hh := World.ownsRow.cells h2 rfl (i * 7 + j) _ (List.getElem?_eq_getElem hlen)
      rw [add_head _ ⟨rfl, rfl⟩, ← List.getElem?_eq_getElem hlen, e] at hh
      exact hh
/-- A number of a record is stored. -/
theorem OwnR.put {w : World} {B : Nat} {x : Addr} {n c : Nat} {rs : List Rec} (h : OwnR w B (.slice (some x) n c) rs) {i j : Nat} (hi : i < rs.length) (hj : j < 7) (u : Value) (r' : Rec)
    (hr : ∀ k, rcl r' k = (rcl (rs.getD i zrec) k).set j u) (hks : r'.ks = (rs.getD i zrec).ks) : OwnR (w.setCell ⟨x.block, i * 7 + j, none⟩ u) B (.slice (some x) n c) (rs.set i r') := by
  obtain ⟨ks, h1, h2, h3⟩ := h
  rcases h2.2 with ⟨h4, _⟩ | ⟨g, cap, cur, hv, hB, hg, hn, hm, hs, ht⟩
  · cases h4
  · simp only [Value.slice.injEq, Option.some.injEq] at hv
    obtain ⟨rfl, rfl, rfl⟩ := hv
    have hst := (World.ownsRow.stored h2 (i * 7 + j) u).1
    have hset := cellsR_set rs ks i j u r' (ks.getD i (.slice none 0 0)) hi h1 hj (hr _)
    have hks' : ks.set i (ks.getD i (.slice none 0 0)) = ks := by
      apply List.ext_getElem?
      intro q
      rw [List.getElem?_set]
      by_cases e : i = q
      · subst e
        have : i < ks.length := by omega
        simp [this]
      · simp [e]
    rw [hset, hks'] at hst
    refine ⟨ks, by simp [h1], by simpa using hst, fun q hq => ?_⟩
    have hq' : q < rs.length := by simpa using hq
    have hold := h3 q hq'
    have e2 : ((rs.set i r').map Rec.ks).getD q [] = (rs.map Rec.ks).getD q [] := by
      rw [List.getD_eq_getElem?_getD, List.getD_eq_getElem?_getD, List.getElem?_map, List.getElem?_map, List.getElem?_set]
      by_cases e : i = q
      · subst e
        rw [if_pos rfl]
        simp only [hi, if_true, Option.map_some]
        rw [hks, List.getD_eq_getElem?_getD, List.getElem?_eq_getElem hi]
        rfl
      · rw [if_neg e]
    rw [e2]
    refine ⟨hold.1, ?_⟩
    rcases hold.2 with h6 | ⟨g2, cap2, cur2, e3, h6, hg2, rest⟩
    · exact .inl h6
    · refine .inr ⟨g2, cap2, cur2, e3, h6, (Below.heap_setCell w ⟨g, i * 7 + j, none⟩ u g2 (fun e => ?_)).trans hg2, rest⟩
      have e4 : g2 = g := e
      subst e4
      rw [hg] at hg2
      simp only [Option.some.injEq, Obj.cells.injEq] at hg2
      exact absurd hg2.2.1 (by decide)
end Go.Proofs.Ytgipddeldddbnaa
