/-
  Rows of events of the call's own: what keeps them, an append.
-/
import Derived.Test.YtpmdmeolehabjaaEv
import Derived.Test.YtpmdmeolehabjaaBel
namespace Go.Proofs.Ytpmdmeolehabjaa
open Go Go.RowKit
set_option linter.unusedSimpArgs false

theorem info_event : (Try.prog.info? 39).map (fun i => (i.zero, i.size, i.bytes)) = some (some (.agg #[.int .i64 0, .int .i64 0, .int .i64 0, .int .i64 0, .int .i64 0]), 5, 40) := by kernel_rfl
/-- The five cells of an event. -/
def FiveV (w : World) (x : Addr) (e : Ev) : Prop := ∀ j u, (cellsV [e])[j]? = some u → w.cell? (x.add j) = some u
theorem fiveV_new (w : World) (kd wk tk ot lv : Int) : FiveV (w.alloc (.cells #[.int .i64 kd, .int .i64 wk, .int .i64 tk, .int .i64 ot, .int .i64 lv] 39)) ⟨w.heap.size, 0, none⟩ ⟨kd, wk, tk, ot, lv⟩ := by
  have hB := Blk.made w 39 #[.int .i64 kd, .int .i64 wk, .int .i64 tk, .int .i64 ot, .int .i64 lv]
  intro j u hu
  match j, hu with
  | 0, hu => exact (hB.at_ 0).trans hu
  | 1, hu => exact (hB.at_ 1).trans hu
  | 2, hu => exact (hB.at_ 2).trans hu
  | 3, hu => exact (hB.at_ 3).trans hu
  | 4, hu => exact (hB.at_ 4).trans hu
  | j + 5, hu => simp [cellsV] at hu
theorem OwnE.below {w w' : World} {B : Nat} {v : Value} {es : List Ev} (h : OwnE w B v es) (hb : Below w.heap.size w w') : OwnE w' B v es := by
  refine ⟨h.1, ?_⟩
  rcases h.2 with h2 | ⟨g, cap, cur, rfl, h2, hg, rest⟩
  · exact .inl h2
  · exact .inr ⟨g, cap, cur, rfl, h2, (hb.block g (Array.getElem?_eq_some_iff.1 hg).1).trans hg, rest⟩
theorem OwnE.lt {w : World} {B : Nat} {v : Value} {es : List Ev} (h : OwnE w B v es) : ∀ k, v.ownBlock = some k → B ≤ k ∧ k < w.heap.size := World.ownsRow.lt h
theorem OwnE.form {w : World} {B : Nat} {v : Value} {es : List Ev} (h : OwnE w B v es) : ∃ a c, v = .slice a es.length c := by
  rcases h.2 with ⟨rfl, h2⟩ | ⟨g, cap, cur, rfl, _⟩
  · rw [h2]
    exact ⟨_, _, rfl⟩
  · exact ⟨_, _, rfl⟩
theorem OwnE.nil (w : World) (B : Nat) : OwnE w B (.slice none 0 0) [] := World.ownsRow_nil w B _ _
theorem wpList_appV {w : World} {ops : Array Oper} {rest : List Oper} {o : Oper} {a : Act} {Q : Exit → Act → World → Prop} (hgd : o.guard = none) (s x : Operand)
    (ho : o.op = .call { callee := .builtin .append, args := #[s, x], argTypes := #[26, 26] })
    {base : Nat} {v : Value} {l : List Ev} (hs : a.eval s = v) (hown : OwnE w base v l) {ad : Addr} {c : Nat} {e : Ev} (hx : a.eval x = .slice (some ad) 1 c) (h5 : FiveV w ad e) (hn : l.length + 1 ≤ 1000000) (hb : base ≤ w.heap.size)
    (h : ∀ v' w', OwnE w' base v' (l ++ [e]) → w.grownBy w' v.ownBlock → (v'.ownBlock = v.ownBlock ∨ v'.ownBlock = some w.heap.size) → wpList Try.prog ops Q rest (a.put o.dst v') w') :
    wpList Try.prog ops Q (o :: rest) a w := by
  obtain ⟨i0, hi, hz0, hz1, hz2⟩ := info_parts info_event
  refine wpList_append_own_at w hgd s x 26 ho base 39 i0 _ 5 40 Try.underlying26 hi hz0 hz1 hz2 rfl (by omega) v l.length (cellsV l) hs hown ad 1 c (cellsV [e]) hx rfl h5 (cellsV_one [e]) (by unfold maxLen; omega) (by omega) hb ?_
  intro v' w' h1 h2 _ h4
  refine h v' w' ?_ h2 h4
  unfold OwnE
  rw [cellsV_append, List.length_append]
  exact h1
theorem OwnE.formN {w : World} {B : Nat} {v : Value} {es : List Ev} {n : Nat} (h : OwnE w B v es) (hn : es.length = n) : ∃ a c, v = .slice a n c := by
  subst hn
  exact h.form
end Go.Proofs.Ytpmdmeolehabjaa
