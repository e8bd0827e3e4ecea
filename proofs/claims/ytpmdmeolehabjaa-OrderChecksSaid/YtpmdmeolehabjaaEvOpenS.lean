/-
  Slices of events that came in, opened.
-/
import Derived.Test.YtpmdmeolehabjaaEvIn
import Derived.Test.YtpmdmeolehabjaaOpen
import Derived.Test.YtpmdmeolehabjaaCfBase
import Derived.Lib.SmallJoins
namespace Go.Proofs.Ytpmdmeolehabjaa
open Go Go.ChangeShapes Go.WideShapes Go.ChangeAt Go.RowKit Go.Joins

theorem inE_of {w : World} {x : Addr} {n : Nat} (hn : n ≤ maxLen) {es : List Ev} (hl : es.length = n) (h : ∀ i, i < n → x.block < w.heap.size ∧ ∀ j, j < 5 → w.cell? (x.add (i * 5 + j)) = (evV (es.getD i ⟨0, 0, 0, 0, 0⟩))[j]?) : InE w (some x) es := by
  refine ⟨by omega, fun i e hi => ?_⟩
  have hlt : i < es.length := (List.getElem?_eq_some_iff.1 hi).1
  obtain ⟨h1, h2⟩ := h i (by omega)
  refine ⟨x, rfl, h1, fun j hj => ?_⟩
  have := h2 j hj
  rw [List.getD_eq_getElem?_getD, hi] at this
  exact this

set_option maxRecDepth 100000 in
theorem open_evs {H : Type} {enc : TypeId × Value → H} {w : World} {base b0 : Nat} {spare : Nat → Bool} {held : Bool} {r : Reach} {v : Value} {d : DataW H} {p : List MemPlace}
    (hv : Value.okWide Try.prog w r b0 26 v) (h : DataW.Trod enc Try.prog w base spare held 26 v d p) :
    ∃ (a : Option Addr) (n c : Nat) (es : List Ev), v = .slice a n c ∧ es.length = n ∧ InE w a es := by
  obtain ⟨a, n, c, rfl⟩ := okWide_slice Try.underlying26 hv
  obtain ⟨fuel, hf⟩ := h
  rcases Go.Deep.open_slice Try.underlying26 hf with ⟨hcs, _⟩ | ⟨x, l, c', m, f, D, Pl, hcs, _, hl, hm, hmm, _, hi⟩
  · simp [Value.cells] at hcs
    obtain ⟨rfl, rfl, rfl⟩ := hcs
    exact ⟨_, _, _, [], rfl, rfl, by unfold maxLen; simp, fun i e hi => by simp at hi⟩
  · simp [Value.cells] at hcs
    obtain ⟨rfl, rfl, rfl⟩ := hcs
    have hnm : n ≤ m := by rw [hmm]; split <;> omega
    have each : ∀ i, i < n → ∃ e : Ev, x.block < w.heap.size ∧ ∀ j, j < 5 → w.cell? (x.add (i * 5 + j)) = (evV e)[j]? := by
      intro i hin
      obtain ⟨cs', hc, ht⟩ := hi i (by omega)
      have c2 : Try.prog.cellsOf 39 = 5 := by kernel_rfl
      have cI : Try.prog.cellsOf 3 = 1 := by kernel_rfl
      rw [c2] at hc
      obtain ⟨_, hlen, hat⟩ := World.cells?_some hc
      obtain ⟨xs, f', _, _, _, hxs, hfs⟩ := DataW.trod_struct Try.underlying39 ht
      match cs', hlen with
      | [y0, y1, y2, y3, y4], _ =>
        have g0 : DataW.trod enc Try.prog w base spare held f' 3 (([y0, y1, y2, y3, y4].drop 0).take (Try.prog.cellsOf 3)) = xs[0]? := hfs 0 _ rfl
        have g1 : DataW.trod enc Try.prog w base spare held f' 3 (([y0, y1, y2, y3, y4].drop 1).take (Try.prog.cellsOf 3)) = xs[1]? := hfs 1 _ rfl
        have g2 : DataW.trod enc Try.prog w base spare held f' 3 (([y0, y1, y2, y3, y4].drop 2).take (Try.prog.cellsOf 3)) = xs[2]? := hfs 2 _ rfl
        have g3 : DataW.trod enc Try.prog w base spare held f' 3 (([y0, y1, y2, y3, y4].drop 3).take (Try.prog.cellsOf 3)) = xs[3]? := hfs 3 _ rfl
        have g4 : DataW.trod enc Try.prog w base spare held f' 3 (([y0, y1, y2, y3, y4].drop 4).take (Try.prog.cellsOf 3)) = xs[4]? := hfs 4 _ rfl
        rw [cI] at g0 g1 g2 g3 g4
        match xs, hxs with
        | [z0, z1, z2, z3, z4], _ =>
          obtain ⟨x0, e0, _, _⟩ := DataW.trod_int Try.underlying3 (x := z0) g0
          obtain ⟨x1, e1, _, _⟩ := DataW.trod_int Try.underlying3 (x := z1) g1
          obtain ⟨x2, e2, _, _⟩ := DataW.trod_int Try.underlying3 (x := z2) g2
          obtain ⟨x3, e3, _, _⟩ := DataW.trod_int Try.underlying3 (x := z3) g3
          obtain ⟨x4, e4, _, _⟩ := DataW.trod_int Try.underlying3 (x := z4) g4
          simp at e0 e1 e2 e3 e4
          subst e0 e1 e2 e3 e4
          have a0 := hat 0 (by omega)
          have a1 := hat 1 (by omega)
          have a2 := hat 2 (by omega)
          have a3 := hat 3 (by omega)
          have a4 := hat 4 (by omega)
          rw [Go.Deep.add_add] at a0 a1 a2 a3 a4
          refine ⟨⟨x0, x1, x2, x3, x4⟩, ?_, fun j hj => ?_⟩
          · have := World.block_lt_of_cell? w _ a0
            rwa [show (x.add (i * 5 + 0)).block = x.block by unfold Addr.add; split <;> rfl] at this
          · match j, hj with
            | 0, _ => exact a0
            | 1, _ => exact a1
            | 2, _ => exact a2
            | 3, _ => exact a3
            | 4, _ => exact a4
    obtain ⟨es, hes, hp⟩ := list_of (⟨0, 0, 0, 0, 0⟩ : Ev) _ n each
    exact ⟨_, _, _, es, rfl, hes, inE_of (by omega) hes hp⟩
end Go.Proofs.Ytpmdmeolehabjaa
