/-
  Slices of uint64 that came in, opened as values that read as words.
-/
import Derived.Test.YtjejnkkefkompaaEdA
import Derived.Test.YtjejnkkefkompaaOpen
import Derived.ChangeSlices
import Derived.Laws.IdiomArrays
namespace Go.Proofs.Ytjejnkkefkompaa
open Go Go.ChangeShapes Go.WideShapes Go.ChangeAt Go.RowKit

set_option maxRecDepth 100000 in
theorem open_wordsV {H : Type} {enc : TypeId × Value → H} {w : World} {base b0 : Nat} {spare : Nat → Bool} {held : Bool} {r : Reach} {v : Value} {d : DataW H} {p : List MemPlace}
    (hv : Value.okWide Try.prog w r b0 22 v) (h : DataW.Trod enc Try.prog w base spare held 22 v d p) :
    ∃ (zs : List Int), WV w v zs ∧ ∀ x, x ∈ zs → 0 ≤ x := by
  obtain ⟨a, n, c, rfl⟩ := okWide_slice Try.underlying22 hv
  obtain ⟨fuel, hf⟩ := h
  rcases open_ints Try.underlying22 Try.underlying23 (by kernel_rfl) hf with ⟨hcs, _⟩ | ⟨x, l, c', zs, hcs, _, hl, hm, hz, _, hcell, hwf⟩
  · simp [Value.cells] at hcs
    obtain ⟨rfl, rfl, rfl⟩ := hcs
    exact ⟨[], WV.nil w, by simp⟩
  · simp [Value.cells] at hcs
    obtain ⟨rfl, rfl, rfl⟩ := hcs
    have hnz : n ≤ zs.length := by rw [hz]; split <;> omega
    refine ⟨zs.take n, ⟨_, _, _, rfl, ⟨by simp; omega, by omega, fun i hi => ⟨x, rfl, ?_, ?_⟩⟩, by omega, fun e => by cases e⟩, fun y hy => ?_⟩
    · have := World.block_lt_of_cell? w _ (hcell i (by omega))
      rwa [show (x.add i).block = x.block by unfold Addr.add; split <;> rfl] at this
    · rw [hcell i (by omega), List.getD_eq_getElem?_getD, List.getD_eq_getElem?_getD, List.getElem?_take, if_pos hi]
    · have := hwf y (List.mem_of_mem_take hy)
      simp only [Lit.wf, Bool.and_eq_true, decide_eq_true_eq] at this
      have h0 : IntKind.u64.min = 0 := rfl
      rw [h0] at this
      exact this.1
end Go.Proofs.Ytjejnkkefkompaa
