/-
  Queues of ints of the call's own: a row from some place on; appends at its end, its first element dropped.
-/
import Derived.Test.YtplifdmfoeejaaaMgAR
namespace Go.Proofs.Ytplifdmfoeejaaa
open Go Go.RowKit

/-- The slice v is the call's own (nil, or a part of a row from block base on) and holds the numbers l. -/
def OwnQ (w : World) (base : Nat) (v : Value) (l : List Int) : Prop :=
  (v = .slice none 0 0 ∧ l = []) ∨ ∃ (g o cap : Nat) (cur : Array Value), v = .slice (some ⟨g, o, none⟩) l.length cap ∧ base ≤ g ∧ Blk w g 3 cur ∧ l.length ≤ cap ∧ cap ≤ maxLen ∧ o + cap ≤ cur.size ∧ ∀ i, i < l.length → cur[o + i]? = some (.int .i64 (l.getD i 0))
section
variable {w w' : World} {base : Nat} {v : Value} {l : List Int}
theorem OwnQ.nil (w : World) (base : Nat) : OwnQ w base (.slice none 0 0) [] := .inl ⟨rfl, rfl⟩
theorem OwnQ.lt (h : OwnQ w base v l) : ∀ k, v.ownBlock = some k → base ≤ k ∧ k < w.heap.size := by
  intro k hk
  rcases h with ⟨rfl, _⟩ | ⟨g, o, cap, cur, rfl, hb, hg, _⟩
  · cases hk
  · simp only [Value.ownBlock, Option.some.injEq] at hk
    subst hk
    exact ⟨hb, hg.lt⟩
theorem OwnQ.same (h : OwnQ w base v l) (e : ∀ k, v.ownBlock = some k → w'.heap[k]? = w.heap[k]?) : OwnQ w' base v l := by
  rcases h with h | ⟨g, o, cap, cur, rfl, hb, hg, rest⟩
  · exact .inl h
  · exact .inr ⟨g, o, cap, cur, rfl, hb, hg.of_same (e g rfl), rest⟩
theorem OwnQ.below (h : OwnQ w base v l) (hb : Below w.heap.size w w') : OwnQ w' base v l := h.same (fun k hk => hb.block k (h.lt k hk).2)
theorem OwnQ.ty (h : OwnQ w base v l) : ∀ k, v.ownBlock = some k → ∃ cur, Blk w k 3 cur := by
  intro k hk
  rcases h with ⟨rfl, _⟩ | ⟨g, o, cap, cur, rfl, hb, hg, _⟩
  · cases hk
  · simp only [Value.ownBlock, Option.some.injEq] at hk
    subst hk
    exact ⟨cur, hg⟩
/-- Its form, and what it reads as. -/
theorem OwnQ.form (h : OwnQ w base v l) : ∃ a c, v = .slice a l.length c ∧ l.length ≤ c ∧ ∀ i, i < l.length → ∃ g o, a = some ⟨g, o, none⟩ ∧ w.cell? ⟨g, o + i, none⟩ = some (.int .i64 (l.getD i 0)) := by
  rcases h with ⟨rfl, rfl⟩ | ⟨g, o, cap, cur, rfl, hb, hg, hn, hm, hs, hc⟩
  · exact ⟨none, 0, rfl, by simp, fun i hi => absurd hi (by simp)⟩
  · exact ⟨_, cap, rfl, hn, fun i hi => ⟨g, o, rfl, by rw [hg.at_]; exact hc i hi⟩⟩
/-- .. where it is not empty. -/
theorem OwnQ.at0 (h : OwnQ w base v l) (hl : 0 < l.length) : ∃ g o c, v = .slice (some ⟨g, o, none⟩) l.length c ∧ l.length ≤ c ∧ ∀ i, i < l.length → w.cell? ⟨g, o + i, none⟩ = some (.int .i64 (l.getD i 0)) := by
  rcases h with ⟨rfl, rfl⟩ | ⟨g, o, cap, cur, rfl, hb, hg, hn, hm, hs, hc⟩
  · simp at hl
  · exact ⟨g, o, cap, rfl, hn, fun i hi => by rw [hg.at_]; exact hc i hi⟩
/-- Without its last element. -/
theorem OwnQ.init {g o m c : Nat} (h : OwnQ w base (.slice (some ⟨g, o, none⟩) (m + 1) c) l) : l.length = m + 1 ∧ m + 1 ≤ c ∧ OwnQ w base (.slice (some ⟨g, o, none⟩) m c) l.dropLast := by
  rcases h with ⟨e, _⟩ | ⟨g', o', cap, cur, e, hb, hg, hn, hm, hs, hc⟩
  · cases e
  · simp only [Value.slice.injEq, Option.some.injEq, Addr.mk.injEq] at e
    obtain ⟨⟨rfl, rfl, _⟩, hl, rfl⟩ := e
    have hd : l.dropLast.length = m := by rw [List.length_dropLast]; omega
    refine ⟨hl.symm, by omega, .inr ⟨g, o, c, cur, by rw [hd], hb, hg, by omega, hm, hs, fun i hi => ?_⟩⟩
    rw [hc i (by omega), List.getD_eq_getElem?_getD, List.getD_eq_getElem?_getD, List.getElem?_dropLast, if_pos (by omega)]
/-- Without its first element: the address stands where nothing is left. -/
theorem OwnQ.tail {g o m c : Nat} (h : OwnQ w base (.slice (some ⟨g, o, none⟩) (m + 1) c) l) : l.length = m + 1 ∧ m + 1 ≤ c ∧ (c = 1 → OwnQ w base (.slice (some ⟨g, o, none⟩) m (c - 1)) l.tail) ∧ OwnQ w base (.slice (some ⟨g, o + 1, none⟩) m (c - 1)) l.tail := by
  rcases h with ⟨e, _⟩ | ⟨g', o', cap, cur, e, hb, hg, hn, hm, hs, hc⟩
  · cases e
  · simp only [Value.slice.injEq, Option.some.injEq, Addr.mk.injEq] at e
    obtain ⟨⟨rfl, rfl, _⟩, hl, rfl⟩ := e
    have hd : l.tail.length = m := by rw [List.length_tail]; omega
    refine ⟨hl.symm, by omega, fun h1 => .inr ⟨g, o, c - 1, cur, by rw [hd], hb, hg, by omega, by omega, by omega, fun i hi => by omega⟩, .inr ⟨g, o + 1, c - 1, cur, by rw [hd], hb, hg, by omega, by omega, by omega, fun i hi => ?_⟩⟩
    have h2 := hc (i + 1) (by omega)
    rw [show o + 1 + i = o + (i + 1) by omega, h2]
    cases l with
    | nil => simp at hl
    | cons x xs => rfl
end

/-- An append where there is room, at any place of the row. -/
theorem run_append_at {P : Program} {w : World} (t ty e : TypeId) (i : TypeInfo) (ht : P.underlying t = some (.slice e)) (hi : P.info? e = some i) (h1 : i.size = 1)
    (g o n cap : Nat) (cur : Array Value) (hg : w.heap[g]? = some (.cells cur e (0, 0)))
    (a : Addr) (m c : Nat) (news : List Value) (hl : news.length = m) (hnews : ∀ j u, news[j]? = some u → w.cell? (a.add j) = some u) (hone : ∀ u ∈ news, u.oneCell' = true)
    (hroom : n + m ≤ cap) (hfit : o + n + m ≤ cur.size) :
    (Builtin.append_ #[t, t] ty #[.slice (some ⟨g, o, none⟩) n cap, .slice (some a) m c]).run P w =
      .ok (.slice (some ⟨g, o, none⟩) (n + m) cap) (w.setRow g (cur.toList.take (o + n) ++ news ++ cur.toList.drop (o + n + m)).toArray) := by
  have hf := run_firstCells_some (P := P) w i.size m a m c news (by rw [h1, Nat.mul_one]; exact hl) hnews
  have hst := run_storeCells_at P g (o + n) e news 0 cur w hg (by rw [hl]; simpa using hfit) hone
  simp only [Nat.add_zero, hl, List.append_assoc] at hst
  rw [h1] at hf
  have hadd : (⟨g, o, none⟩ : Addr).add n = ⟨g, o + n, none⟩ := Addr.add_lit g o n
  simp [Builtin.append_, run_underlying ht, sizeOf, typeInfo, hi, Builtin.lenOf, hroom, hf, Addr.add_lit, h1, hst]

/-- An append of numbers to a queue of the call's own. -/
theorem run_appQ {w : World} {base : Nat} {v : Value} {l : List Int} (ty : TypeId) (hown : OwnQ w base v l) {ad : Addr} {m c : Nat} {ns : List Int} (hl : ns.length = m) (hm0 : 0 < m)
    (hnews : ∀ j u, (ns.map (Value.int .i64))[j]? = some u → w.cell? (ad.add j) = some u) (hn : l.length + m ≤ 1000000) (hb : base ≤ w.heap.size) :
    ∃ v' w', (Builtin.append_ #[23, 23] ty #[v, .slice (some ad) m c]).run Try.prog w = .ok v' w' ∧ OwnQ w' base v' (l ++ ns) ∧ w.grownBy w' v.ownBlock := by
  obtain ⟨i0, hi, hz0, hz1, hz2⟩ := info_parts info_int
  have hml : (ns.map (Value.int .i64)).length = m := by simpa using hl
  have hlen : (l ++ ns).length = l.length + m := by rw [List.length_append, hl]
  have grown : ∀ (old : Nat), 
      OwnQ (w.drew.alloc (.cells ((l.map (Value.int .i64)).toArray ++ (ns.map (Value.int .i64)).toArray ++ Builtin.zeroCells (Value.int .i64 0).cells (grownCap w (l.length + m) old 3 - (l.length + m))) 3)) base
        (.slice (some ⟨w.heap.size, 0, none⟩) (l.length + m) (grownCap w (l.length + m) old 3)) (l ++ ns) ∧
      w.grownBy (w.drew.alloc (.cells ((l.map (Value.int .i64)).toArray ++ (ns.map (Value.int .i64)).toArray ++ Builtin.zeroCells (Value.int .i64 0).cells (grownCap w (l.length + m) old 3 - (l.length + m))) 3)) v.ownBlock := by
    intro old
    have hge := grownCap_ge w (l.length + m) old 3
    have hcm : grownCap w (l.length + m) old 3 ≤ maxLen := grownCap_le_maxLen w (l.length + m) old 3 (by unfold maxLen; omega)
    have hz : (Value.int IntKind.i64 0).cells.size = 1 := rfl
    refine ⟨.inr ⟨w.heap.size, 0, _, _, by rw [hlen], hb, Blk.made w.drew _ _, by omega, hcm, ?_, fun i hi => ?_⟩, ⟨rfl, rfl, rfl, by simp, fun k hk _ => heap_alloc_old w.drew _ hk⟩⟩
    · simp only [Array.size_append, List.size_toArray, size_zeroCells, hz, List.length_map, hl]
      omega
    · rw [Nat.zero_add, ← Array.getElem?_toList]
      simp only [Array.toList_append]
      rw [← List.map_append, List.getElem?_append_left (by rw [List.length_map]; exact hi), List.getElem?_map, List.getD_eq_getElem?_getD, List.getElem?_eq_getElem hi]
      rfl
  rcases hown with ⟨rfl, rfl⟩ | ⟨g, o, cap, cur, rfl, hbg, hg, hnc, hcm, hcs, hc⟩
  · have hr := run_append_nil (P := Try.prog) w 23 ty 3 i0 _ Try.underlying23 hi hz0 ad m c (ns.map (Value.int .i64)) (by rw [hz1, Nat.mul_one]; exact hml) hnews (by omega) (by simp at hn; omega) (by rw [hz2]; simp at hn; omega)
    have hgr := grown 0
    simp only [List.length_nil, Nat.zero_add, List.nil_append, List.map_nil, Array.empty_append] at hgr ⊢
    exact ⟨_, _, hr, hgr.1, hgr.2⟩
  · by_cases hroom : l.length + m ≤ cap
    · have hr := run_append_at (P := Try.prog) 23 ty 3 i0 Try.underlying23 hi hz1 g o l.length cap cur hg ad m c (ns.map (Value.int .i64)) hml hnews (ints_one ns) hroom (by omega)
      refine ⟨_, _, hr, .inr ⟨g, o, cap, _, by rw [hlen], hbg, setRow_heap w g cur _ _ _ hg, by omega, hcm, ?_, fun i hi => ?_⟩, ⟨rfl, rfl, rfl, by simp, fun k _ hk => setRow_other w g k _ (fun e => hk (by simp [Value.ownBlock, e]))⟩⟩
      · simp only [List.size_toArray, List.length_append, List.length_take, List.length_drop, Array.length_toList, hml]
        omega
      · rw [List.getElem?_toArray]
        have hcl : cur.toList.length = cur.size := Array.length_toList
        have ht : (cur.toList.take (o + l.length)).length = o + l.length := by rw [List.length_take, hcl]; omega
        by_cases hil : i < l.length
        · rw [List.append_assoc, List.getElem?_append_left (by rw [ht]; omega), List.getElem?_take, if_pos (by omega), Array.getElem?_toList, hc i hil, List.getD_eq_getElem?_getD, List.getD_eq_getElem?_getD, List.getElem?_append_left hil]
        · rw [List.append_assoc, List.getElem?_append_right (by rw [ht]; omega), ht, show o + i - (o + l.length) = i - l.length by omega, List.getElem?_append_left (by rw [hml]; omega), List.getElem?_map, List.getD_eq_getElem?_getD, List.getElem?_append_right (by omega), List.getElem?_eq_getElem (by omega)]
          rfl
    · have hr := run_append_grow (P := Try.prog) (w := w) 23 ty 3 i0 _ Try.underlying23 hi hz0 ⟨g, o, none⟩ l.length cap (l.map (Value.int .i64)) (by rw [hz1, Nat.mul_one, List.length_map]) (fun j u hu => by
          rw [Addr.add_lit, hg.at_]
          rw [List.getElem?_map] at hu
          have hj : j < l.length := by
            by_cases hj : j < l.length
            · exact hj
            · rw [List.getElem?_eq_none (by omega)] at hu
              cases hu
          rw [hc j hj, List.getD_eq_getElem?_getD]
          rw [List.getElem?_eq_getElem hj] at hu ⊢
          exact hu) ad m c (ns.map (Value.int .i64)) (by rw [hz1, Nat.mul_one]; exact hml) hnews (by omega) (by omega) (growslice_fits (by omega) (by rw [hz2]; omega))
      have hgr := grown cap
      exact ⟨_, _, hr, hgr.1, hgr.2⟩
/-- An append at the operation, for the walk. -/
theorem wpList_appQ {w : World} {ops : Array Oper} {rest : List Oper} {o : Oper} {a : Act} {Q : Exit → Act → World → Prop} (hgd : o.guard = none) (s x : Operand)
    (ho : o.op = .call { callee := .builtin .append, args := #[s, x], argTypes := #[23, 23] })
    {base : Nat} {v : Value} {l : List Int} (hs : a.eval s = v) (hown : OwnQ w base v l) {ad : Addr} {m c : Nat} {ns : List Int} (hx : a.eval x = .slice (some ad) m c) (hl : ns.length = m) (hm0 : 0 < m)
    (hnews : ∀ j u, (ns.map (Value.int .i64))[j]? = some u → w.cell? (ad.add j) = some u) (hn : l.length + m ≤ 1000000) (hb : base ≤ w.heap.size)
    (h : ∀ v' w', OwnQ w' base v' (l ++ ns) → w.grownBy w' v.ownBlock → wpList Try.prog ops Q rest (a.put o.dst v') w') :
    wpList Try.prog ops Q (o :: rest) a w := by
  refine wpList_plain hgd fun K hK => ?_
  obtain ⟨v', w', hr, h2, h3⟩ := run_appQ o.type hown (c := c) hl hm0 hnews hn hb
  unfold Oper.wp execOp
  simp only [ho, resolve, invoke, builtin, Sem.run_bind, Sem.run_pure, Result.andThen_ok, List.map_toArray, List.map_cons, List.map_nil, hs, hx, hr]
  exact hK _ _ (h v' w' h2 h3)
theorem Blk.appQ {w w' : World} {base g : Nat} {t : TypeId} {cs : Array Value} {v : Value} {l : List Int} (h : Blk w g t cs) (hown : OwnQ w base v l) (hg : w.grownBy w' v.ownBlock) (ht : t ≠ 3) : Blk w' g t cs := by
  refine h.grown hg fun e => ?_
  obtain ⟨cur, hc⟩ := hown.ty g e
  unfold Blk at h hc
  rw [hc] at h
  simp only [Option.some.injEq, Obj.cells.injEq] at h
  exact ht h.2.1.symm
theorem below_appQ {w0 w w' : World} {v : Value} {l : List Int} (hb : Below w0.heap.size w0 w) (h : OwnQ w w0.heap.size v l) (hg : w.grownBy w' v.ownBlock) : Below w0.heap.size w0 w' :=
  ⟨hg.os.trans hb.os, hg.tape.trans hb.tape, hg.output.trans hb.output, Nat.le_trans hb.size hg.size, fun k hk => (hg.block k (Nat.lt_of_lt_of_le hk hb.size) (fun e => by
    have := (h.lt k e.symm).1
    omega)).trans (hb.block k hk)⟩
end Go.Proofs.Ytplifdmfoeejaaa
