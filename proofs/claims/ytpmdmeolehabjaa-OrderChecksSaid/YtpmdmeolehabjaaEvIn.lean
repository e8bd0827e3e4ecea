/-
  Slices of events that came in.
-/
import Derived.Test.YtpmdmeolehabjaaEvOwn
namespace Go.Proofs.Ytpmdmeolehabjaa
open Go Go.RowKit
set_option linter.unusedSimpArgs false

/-- The slice at a reads as the events es. -/
def InE (w : World) (a : Option Addr) (es : List Ev) : Prop := es.length ≤ maxLen ∧ ∀ i e, es[i]? = some e → ∃ x : Addr, a = some x ∧ x.block < w.heap.size ∧ ∀ j, j < 5 → w.cell? (x.add (i * 5 + j)) = (evV e)[j]?
theorem InE.below {w w' : World} {a : Option Addr} {es : List Ev} (h : InE w a es) (hb : Below w.heap.size w w') : InE w' a es :=
  ⟨h.1, fun i e hi => by
    obtain ⟨x, ha, hx, hc⟩ := h.2 i e hi
    exact ⟨x, ha, Nat.lt_of_lt_of_le hx hb.size, fun j hj => (hb.cell (by rw [block_add]; exact hx)).trans (hc j hj)⟩⟩
theorem InE.at_ {w : World} {a : Option Addr} {es : List Ev} (h : InE w a es) {i : Nat} {e : Ev} (hi : es[i]? = some e) :
    ∃ x : Addr, a = some x ∧ w.cell? (x.add (i * 5)) = some (.int .i64 e.kd) ∧ w.cell? ⟨(x.add (i * 5)).block, (x.add (i * 5)).off + 1, none⟩ = some (.int .i64 e.wk) ∧ w.cell? ⟨(x.add (i * 5)).block, (x.add (i * 5)).off + 2, none⟩ = some (.int .i64 e.tk)
      ∧ w.cell? ⟨(x.add (i * 5)).block, (x.add (i * 5)).off + 3, none⟩ = some (.int .i64 e.ot) ∧ w.cell? ⟨(x.add (i * 5)).block, (x.add (i * 5)).off + 4, none⟩ = some (.int .i64 e.lv) := by
  obtain ⟨x, ha, _, hc⟩ := h.2 i e hi
  exact ⟨x, ha, hc 0 (by omega), cell_field (i := i * 5) (j := 0) (hc 1 (by omega)), cell_field (i := i * 5) (j := 1) (hc 2 (by omega)), cell_field (i := i * 5) (j := 2) (hc 3 (by omega)), cell_field (i := i * 5) (j := 3) (hc 4 (by omega))⟩
theorem OwnE.inE {w : World} {B : Nat} {v : Value} {es : List Ev} (h : OwnE w B v es) : ∃ a c, v = .slice a es.length c ∧ InE w a es := by
  rcases h.2 with ⟨rfl, h2⟩ | ⟨g, cap, cur, rfl, _, hg, hn, hm, _, _⟩
  · have hl : es.length = 0 := h2
    have : es = [] := List.length_eq_zero_iff.1 hl
    subst this
    exact ⟨none, 0, rfl, by unfold maxLen; omega, fun i e hi => by simp at hi⟩
  · refine ⟨_, _, rfl, by unfold maxLen at *; omega, fun i e hi => ⟨_, rfl, (Array.getElem?_eq_some_iff.1 hg).1, fun j hj => ?_⟩⟩
    have e1 := cellsV_at es i j e hi hj
    have hlt : j < (evV e).size := hj
    rw [Array.getElem?_eq_getElem hlt] at e1 ⊢
    exact World.ownsRow.cells h rfl _ _ e1
end Go.Proofs.Ytpmdmeolehabjaa
