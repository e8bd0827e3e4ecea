/-
  Slices of ints that came in.
-/
import Derived.Test.YtpmdmeolehabjaaOpen
namespace Go.Proofs.Ytpmdmeolehabjaa
open Go Go.ChangeShapes Go.WideShapes Go.ChangeAt Go.RowKit

/-- The slice (a, n) reads as the numbers zs (ints). -/
def InInts (w : World) (a : Option Addr) (n : Nat) (zs : List Int) : Prop :=
  zs.length = n ∧ n ≤ maxLen ∧ ∀ i, i < n → ∃ x : Addr, a = some x ∧ x.block < w.heap.size ∧ w.cell? (x.add i) = some (.int .i64 (zs.getD i 0))

theorem InInts.below {w w' : World} {a : Option Addr} {n : Nat} {zs : List Int} (h : InInts w a n zs) (hb : Below w.heap.size w w') : InInts w' a n zs :=
  ⟨h.1, h.2.1, fun i hi => by
    obtain ⟨x, e, hx, hc⟩ := h.2.2 i hi
    refine ⟨x, e, Nat.lt_of_lt_of_le hx hb.size, ?_⟩
    rw [hb.cell (by rw [show (x.add i).block = x.block by unfold Addr.add; split <;> rfl]; exact hx)]
    exact hc⟩

theorem InInts.cell {w : World} {x : Addr} {n i : Nat} {zs : List Int} (h : InInts w (some x) n zs) (hi : i < n) : w.cell? (x.add i) = some (.int .i64 (zs.getD i 0)) := by
  obtain ⟨y, e, _, hc⟩ := h.2.2 i hi
  cases e
  exact hc

set_option maxRecDepth 100000 in
theorem open_introw {H : Type} {enc : TypeId × Value → H} {w : World} {base b0 : Nat} {spare : Nat → Bool} {held : Bool} {r : Reach} {v : Value} {d : DataW H} {p : List MemPlace}
    (hv : Value.okWide Try.prog w r b0 28 v) (h : DataW.Trod enc Try.prog w base spare held 28 v d p) :
    ∃ (a : Option Addr) (n c : Nat) (zs : List Int), v = .slice a n c ∧ InInts w a n zs := by
  obtain ⟨a, n, c, rfl⟩ := okWide_slice Try.underlying28 hv
  obtain ⟨fuel, hf⟩ := h
  rcases open_ints Try.underlying28 Try.underlying3 (by kernel_rfl) hf with ⟨hcs, _⟩ | ⟨x, l, c', zs, hcs, _, hl, hm, hz, _, hcell, _⟩
  · simp [Value.cells] at hcs
    obtain ⟨rfl, rfl, rfl⟩ := hcs
    exact ⟨_, _, _, [], rfl, rfl, by simp, fun i hi => absurd hi (by omega)⟩
  · simp [Value.cells] at hcs
    obtain ⟨rfl, rfl, rfl⟩ := hcs
    have hnz : n ≤ zs.length := by rw [hz]; split <;> omega
    refine ⟨_, _, _, zs.take n, rfl, by simp; omega, by omega, fun i hi => ⟨x, rfl, ?_, ?_⟩⟩
    · have := World.block_lt_of_cell? w _ (hcell i (by omega))
      rwa [show (x.add i).block = x.block by unfold Addr.add; split <;> rfl] at this
    · rw [hcell i (by omega), List.getD_eq_getElem?_getD, List.getD_eq_getElem?_getD, List.getElem?_take, if_pos hi]
end Go.Proofs.Ytpmdmeolehabjaa
