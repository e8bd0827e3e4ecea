/-
  Entries and slices of entries that came in, opened.
-/
import Derived.Test.YtpaacpcmijhcmaaScBase
import Derived.Test.YtpaacpcmijhcmaaOpen
import Derived.Lib.SmallJoins
namespace Go.Proofs.Ytpaacpcmijhcmaa
open Go Go.ChangeShapes Go.WideShapes Go.ChangeAt Go.RowKit Go.Joins

theorem list_of {α : Type} (d : α) (P : Nat → α → Prop) : ∀ n, (∀ i, i < n → ∃ e, P i e) → ∃ l : List α, l.length = n ∧ ∀ i, i < n → P i (l.getD i d)
  | 0, _ => ⟨[], rfl, fun i hi => by omega⟩
  | n + 1, h => by
    obtain ⟨l, hl, hp⟩ := list_of d P n (fun i hi => h i (by omega))
    obtain ⟨e, he⟩ := h n (by omega)
    refine ⟨l ++ [e], by simp [hl], fun i hi => ?_⟩
    by_cases hin : i < n
    · have e1 : (l ++ [e]).getD i d = l.getD i d := by
        rw [List.getD_eq_getElem?_getD, List.getD_eq_getElem?_getD, List.getElem?_append_left (by omega)]
      rw [e1]
      exact hp i hin
    · obtain rfl : i = n := by omega
      have e1 : (l ++ [e]).getD i d = e := by
        rw [List.getD_eq_getElem?_getD, List.getElem?_append_right (by omega), hl, Nat.sub_self]
        rfl
      rw [e1]
      exact he

theorem open_ents {H : Type} {enc : TypeId × Value → H} {w : World} {base b0 : Nat} {spare : Nat → Bool} {held : Bool} {r : Reach} {v : Value} {d : DataW H} {p : List MemPlace}
    (hv : Value.okWide Try.prog w r b0 25 v) (h : DataW.Trod enc Try.prog w base spare held 25 v d p) :
    ∃ (a : Option Addr) (n c : Nat) (es : List (Int × Int)), v = .slice a n c ∧ Ents w a n es ∧ n ≤ c := by
  obtain ⟨a, n, c, rfl⟩ := okWide_slice Try.underlying25 hv
  obtain ⟨fuel, hf⟩ := h
  rcases Go.Deep.open_slice Try.underlying25 hf with ⟨hcs, _⟩ | ⟨x, l, c', m, f, D, Pl, hcs, _, hl, hm, hmm, _, hi⟩
  · simp [Value.cells] at hcs
    obtain ⟨rfl, rfl, rfl⟩ := hcs
    exact ⟨_, _, _, [], rfl, ents_nil _ _, Nat.le_refl _⟩
  · simp [Value.cells] at hcs
    obtain ⟨rfl, rfl, rfl⟩ := hcs
    have hnm : n ≤ m := by rw [hmm]; split <;> omega
    have each : ∀ i, i < n → ∃ e : Int × Int, x.block < w.heap.size ∧ w.cell? (x.add (i * 2)) = some (.int .i64 e.1) ∧ w.cell? (x.add (i * 2 + 1)) = some (.int .i64 e.2) := by
      intro i hin
      obtain ⟨cs', hc, ht⟩ := hi i (by omega)
      have c2 : Try.prog.cellsOf 43 = 2 := by kernel_rfl
      have cI : Try.prog.cellsOf 3 = 1 := by kernel_rfl
      rw [c2] at hc
      obtain ⟨_, hlen, hat⟩ := World.cells?_some hc
      obtain ⟨xs, f', _, _, _, hxs, hfs⟩ := DataW.trod_struct Try.underlying43 ht
      match cs', hlen with
      | [y0, y1], _ =>
        have g0 : DataW.trod enc Try.prog w base spare held f' 3 (([y0, y1].drop 0).take (Try.prog.cellsOf 3)) = xs[0]? := hfs 0 _ rfl
        rw [cI] at g0
        have g1 : DataW.trod enc Try.prog w base spare held f' 3 (([y0, y1].drop 1).take (Try.prog.cellsOf 3)) = xs[1]? := hfs 1 _ rfl
        rw [cI] at g1
        match xs, hxs with
        | [z0, z1], _ =>
          obtain ⟨x0, e0, _, _⟩ := DataW.trod_int Try.underlying3 (x := z0) g0
          obtain ⟨x1, e1, _, _⟩ := DataW.trod_int Try.underlying3 (x := z1) g1
          simp at e0 e1
          subst e0 e1
          have a0 := hat 0 (by omega)
          have a1 := hat 1 (by omega)
          rw [Go.Deep.add_add] at a0 a1
          refine ⟨(x0, x1), ?_, a0, a1⟩
          have := World.block_lt_of_cell? w _ a0
          rwa [show (x.add (i * 2 + 0)).block = x.block by unfold Addr.add; split <;> rfl] at this
    obtain ⟨es, hes, hp⟩ := list_of (0, 0) _ n each
    exact ⟨_, _, _, es, rfl, ⟨hes, by omega, fun i hi => ⟨x, rfl, hp i hi⟩⟩, hl⟩

theorem open_entry {H : Type} {enc : TypeId × Value → H} {w : World} {base b0 : Nat} {spare : Nat → Bool} {held : Bool} {r : Reach} {v : Value} {d : DataW H} {p : List MemPlace}
    (hv : Value.okWide Try.prog w r b0 43 v) (h : DataW.Trod enc Try.prog w base spare held 43 v d p) :
    ∃ x y : Int, v = .agg #[.int .i64 x, .int .i64 y] ∧ d = .agg [.lit (.int .i64 x), .lit (.int .i64 y)] ∧ p = [] ∧ (Lit.int .i64 x).wf = true ∧ (Lit.int .i64 y).wf = true := by
  obtain ⟨c0, c1, y0, y1, m, rfl, rfl, rfl, hy0, hy1⟩ := open_agg2 Try.underlying43 (by kernel_rfl) (by kernel_rfl) hv h
  obtain ⟨a, e0, rfl, wa⟩ := DataW.trod_int Try.underlying3 hy0
  obtain ⟨b, e1, rfl, wb⟩ := DataW.trod_int Try.underlying3 hy1
  simp at e0 e1
  subst e0 e1
  exact ⟨a, b, rfl, rfl, rfl, wa, wb⟩
theorem shut_entry {H : Type} {enc : TypeId × Value → H} {w : World} {base : Nat} {spare : Nat → Bool} {held : Bool} {x y : Int} (hx : (Lit.int .i64 x).wf = true) (hy : (Lit.int .i64 y).wf = true) :
    DataW.Trod enc Try.prog w base spare held 43 (.agg #[.int .i64 x, .int .i64 y]) (.agg [.lit (.int .i64 x), .lit (.int .i64 y)]) [] :=
  shut_agg2 (y0 := (.lit (.int .i64 x), [])) (y1 := (.lit (.int .i64 y), [])) Try.underlying43 (by kernel_rfl) (by kernel_rfl) ⟨1, by simp [DataW.trod, Try.underlying3, hx]⟩ ⟨1, by simp [DataW.trod, Try.underlying3, hy]⟩
end Go.Proofs.Ytpaacpcmijhcmaa
