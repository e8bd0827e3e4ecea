/-
  Slices of uint64 of the call's own: appends, what they read as.
  Package memory: Peek.
-/
import Derived.Test.YtanbjdlaolgepaaGro
import Derived.Test.YtanbjdlaolgepaaMgAG
namespace Go.Proofs.Ytanbjdlaolgepaa
open Go Go.RowKit

theorem info_w64 : (Try.prog.info? 48).map (fun i => (i.zero, i.size, i.bytes)) = some (some (.int .u64 0), 1, 8) := by kernel_rfl

/-- The slice v is the call's own (nil, or a row from block base on) and holds the numbers l. -/
def OwnW (w : World) (base : Nat) (v : Value) (l : List Int) : Prop := w.ownsRow base 48 1 v l.length (l.map (Value.int .u64))
theorem OwnW.nil (w : World) (base : Nat) : OwnW w base (.slice none 0 0) [] := World.ownsRow_nil w base _ _
theorem OwnW.lt {w : World} {base : Nat} {v : Value} {l : List Int} (h : OwnW w base v l) : ∀ k, v.ownBlock = some k → base ≤ k ∧ k < w.heap.size := World.ownsRow.lt h
theorem OwnW.below {w w' : World} {base : Nat} {v : Value} {l : List Int} (h : OwnW w base v l) (hb : Below w.heap.size w w') : OwnW w' base v l := by
  refine ⟨h.1, ?_⟩
  rcases h.2 with h2 | ⟨g, cap, cur, rfl, h2, hg, rest⟩
  · exact .inl h2
  · exact .inr ⟨g, cap, cur, rfl, h2, (hb.block g (Array.getElem?_eq_some_iff.1 hg).1).trans hg, rest⟩
theorem OwnW.alloc {w : World} {base : Nat} {v : Value} {l : List Int} (h : OwnW w base v l) (o : Obj) : OwnW (w.alloc o) base v l := h.below (below_one w o)
/-- A literal. -/
theorem OwnW.lit (w : World) (base : Nat) (l : List Int) (hb : base ≤ w.heap.size) (hm : l.length ≤ maxLen) : OwnW (w.alloc (.cells (l.map (Value.int .u64)).toArray 48)) base (.slice (some ⟨w.heap.size, 0, none⟩) l.length l.length) l := by
  have := World.ownsRow_lit (base := base) (e := 48) (size := 1) w (l.map (Value.int .u64)).toArray l.length hb hm (by simp)
  simpa [OwnW] using this
/-- Its form, and what it reads as. -/
theorem OwnW.form {w : World} {base : Nat} {v : Value} {l : List Int} (h : OwnW w base v l) : ∃ a c, v = .slice a l.length c ∧ l.length ≤ c ∧ ∀ i, i < l.length → ∃ g, a = some ⟨g, 0, none⟩ ∧ w.cell? ⟨g, i, none⟩ = some (.int .u64 (l.getD i 0)) := by
  rcases h.2 with ⟨rfl, h2⟩ | ⟨g, cap, cur, rfl, h2, hg, hn, hc, hz, ht⟩
  · refine ⟨none, 0, by rw [h2], by omega, fun i hi => by omega⟩
  · refine ⟨_, cap, rfl, hn, fun i hi => ⟨g, rfl, ?_⟩⟩
    rw [cell_of_row w g i cur _ (0, 0) hg]
    have h3 : (cur.toList.take (l.length * 1))[i]? = some (.int .u64 (l.getD i 0)) := by
      rw [ht, List.getElem?_map, List.getD_eq_getElem?_getD, List.getElem?_eq_getElem hi]
      rfl
    rw [List.getElem?_take, if_pos (by omega), Array.getElem?_toList] at h3
    exact h3
/-- .. where it is not empty. -/
theorem OwnW.at0 {w : World} {base : Nat} {v : Value} {l : List Int} (h : OwnW w base v l) (hl : 0 < l.length) : ∃ g c, v = .slice (some ⟨g, 0, none⟩) l.length c := by
  obtain ⟨a, c, e, _, h1⟩ := h.form
  obtain ⟨g, rfl, _⟩ := h1 0 hl
  exact ⟨g, c, e⟩
theorem OwnW.cellAt {w : World} {base g c : Nat} {l : List Int} (h : OwnW w base (.slice (some ⟨g, 0, none⟩) l.length c) l) {i : Nat} (hi : i < l.length) : w.cell? ⟨g, i, none⟩ = some (.int .u64 (l.getD i 0)) := by
  obtain ⟨a, c', e, _, h1⟩ := h.form
  obtain ⟨g', rfl, h2⟩ := h1 i hi
  cases e
  exact h2
theorem words_one (l : List Int) : ∀ u ∈ l.map (Value.int .u64), u.oneCell' = true := by
  intro u hu
  obtain ⟨x, _, rfl⟩ := List.mem_map.1 hu
  rfl
/-- Numbers in a row of their own, as an append wants them. -/
theorem words_new (w : World) (l : List Int) : ∀ j u, (l.map (Value.int .u64))[j]? = some u → (w.alloc (.cells (l.map (Value.int .u64)).toArray 48)).cell? ((⟨w.heap.size, 0, none⟩ : Addr).add j) = some u := by
  intro j u hu
  have hB := Blk.made w 48 (l.map (Value.int .u64)).toArray
  have e : (⟨w.heap.size, 0, none⟩ : Addr).add j = ⟨w.heap.size, j, none⟩ := by unfold Addr.add; split <;> simp_all
  rw [e, hB.at_, List.getElem?_toArray]
  exact hu

/-- An append at the operation, for the walk. -/
theorem wpList_appU {w : World} {ops : Array Oper} {rest : List Oper} {o : Oper} {a : Act} {Q : Exit → Act → World → Prop} (hgd : o.guard = none) (s x : Operand)
    (ho : o.op = .call { callee := .builtin .append, args := #[s, x], argTypes := #[41, 41] })
    {base : Nat} {v : Value} {l : List Int} (hs : a.eval s = v) (hown : OwnW w base v l) {ad : Addr} {m c : Nat} {ns : List Int} (hx : a.eval x = .slice (some ad) m c) (hl : ns.length = m)
    (hnews : ∀ j u, (ns.map (Value.int .u64))[j]? = some u → w.cell? (ad.add j) = some u) (hn : l.length + m ≤ 1000000) (hb : base ≤ w.heap.size)
    (h : ∀ v' w', OwnW w' base v' (l ++ ns) → w.grownBy w' v.ownBlock → wpList Try.prog ops Q rest (a.put o.dst v') w') :
    wpList Try.prog ops Q (o :: rest) a w := by
  obtain ⟨i0, hi, hz0, hz1, hz2⟩ := info_partsG info_w64
  refine wpList_append_own_at w hgd s x 41 ho base 48 i0 _ 1 8 Try.underlying41 hi hz0 hz1 hz2 rfl (by omega) v l.length (l.map (Value.int .u64)) hs hown ad m c (ns.map (Value.int .u64)) hx (by simpa using hl) hnews (words_one ns) (by unfold maxLen; omega) (by omega) hb ?_
  intro v' w' h1 h2 _ _
  refine h v' w' ?_ h2
  unfold OwnW
  rw [List.map_append, List.length_append, hl]
  exact h1

/-- .. as one step of a region that draws its order. -/
theorem wp_appU {w : World} {o : Oper} {a : Act} {K : Act → World → Prop} {Q : Exit → Act → World → Prop} (s x : Operand)
    (ho : o.op = .call { callee := .builtin .append, args := #[s, x], argTypes := #[41, 41] })
    {base : Nat} {v : Value} {l : List Int} (hs : a.eval s = v) (hown : OwnW w base v l) {ad : Addr} {m c : Nat} {ns : List Int} (hx : a.eval x = .slice (some ad) m c) (hl : ns.length = m)
    (hnews : ∀ j u, (ns.map (Value.int .u64))[j]? = some u → w.cell? (ad.add j) = some u) (hn : l.length + m ≤ 1000000) (hb : base ≤ w.heap.size)
    (h : ∀ v' w', OwnW w' base v' (l ++ ns) → w.grownBy w' v.ownBlock → K (a.put o.dst v') w') : Oper.wp Try.prog o a w K Q := by
  obtain ⟨i0, hi, hz0, hz1, hz2⟩ := info_partsG info_w64
  refine wp_append_own w s x 41 ho base 48 i0 _ 1 8 Try.underlying41 hi hz0 hz1 hz2 rfl (by omega) v l.length (l.map (Value.int .u64)) hs hown ad m c (ns.map (Value.int .u64)) hx (by simpa using hl) hnews (words_one ns) (by unfold maxLen; omega) (by omega) hb ?_
  intro v' w' h1 h2 _
  refine h v' w' ?_ h2
  unfold OwnW
  rw [List.map_append, List.length_append, hl]
  exact h1
/-- A block of another type stays as it was when the row grows. -/
theorem Blk.appU {w w' : World} {base g : Nat} {t : TypeId} {cs : Array Value} {v : Value} {l : List Int} (h : Blk w g t cs) (hown : OwnW w base v l) (hg : w.grownBy w' v.ownBlock) (ht : t ≠ 48 ∨ g < base) : Blk w' g t cs := by
  refine h.grown hg fun e => ?_
  rcases ht with ht | ht
  · rcases hown.2 with ⟨rfl, _⟩ | ⟨k, cap, cur, rfl, _, hk, _⟩
    · cases e
    · simp only [Value.ownBlock, Option.some.injEq] at e
      subst e
      unfold Blk at h
      rw [hk] at h
      simp only [Option.some.injEq, Obj.cells.injEq] at h
      exact ht h.2.1.symm
  · have := (hown.lt g e).1
    omega
theorem below_appU {w0 w w' : World} {base : Nat} {v : Value} {l : List Int} (hb : Below w0.heap.size w0 w) (h : OwnW w base v l) (hB : w0.heap.size ≤ base) (hg : w.grownBy w' v.ownBlock) : Below w0.heap.size w0 w' :=
  ⟨hg.os.trans hb.os, hg.tape.trans hb.tape, hg.output.trans hb.output, Nat.le_trans hb.size hg.size, fun k hk => (hg.block k (Nat.lt_of_lt_of_le hk hb.size) (fun e => by
    have := (h.lt k e.symm).1
    omega)).trans (hb.block k hk)⟩
end Go.Proofs.Ytanbjdlaolgepaa

namespace Go.Proofs.Ytanbjdlaolgepaa
open Go Go.RowKit Go.Shelf

theorem peek_any {w : World} {p g cap : Nat} {s : St} (h : Mem w p g cap s) (i : Int) :
    Calls Try.prog 28 #[.pointer (some ⟨p, 0, none⟩), .int .i64 i] w fun e w' => e = .returned (.int .u64 (s.old i)) ∧ w = w' := by
  have h0 : w.cell? ⟨p, 0, none⟩ = some (.slice (some ⟨g, 0, none⟩) s.X.length cap) := h.blk.at_ 0
  have hs := h.small
  by_cases hi : s.has i
  · obtain ⟨j, rfl⟩ : ∃ j : Nat, i = (j : Int) := ⟨i.toNat, by have := hi.1; omega⟩
    have hj : j < s.X.length := by have := hi.2; omega
    have hc := h.row.cell hj
    simp only [St.old, if_pos hi, Int.toNat_natCast]
    generalize s.X.getD j 0 = x at *
    have H := has_yes h hj
    go_enter Try.func28, Try.ntmps28
    go_wp2_with fail
    refine H.mono ?_
    rintro e w' ⟨rfl, rfl⟩
    go_wp2
    go_ret
    exact ⟨rfl, rfl⟩
  · have H := Lib.hid (has_no h (St.has_no hi))
    simp only [St.old, if_neg hi]
    go_enter Try.func28, Try.ntmps28
    go_wp2_with fail
    refine H.out.mono ?_
    rintro e w' ⟨rfl, rfl⟩
    go_wp2
    go_ret
    exact ⟨rfl, rfl⟩
end Go.Proofs.Ytanbjdlaolgepaa
