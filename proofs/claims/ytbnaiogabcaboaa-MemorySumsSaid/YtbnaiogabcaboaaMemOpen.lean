/-
  The arguments of the laws, opened.
-/
import Derived.Test.YtbnaiogabcaboaaMemRows
import Derived.ProofKit
import Derived.OpenShut
import Derived.ShutString
import Derived.ChangeOld
import Derived.Deep.Slices
import Derived.Deep.Fields
namespace Go.Proofs.Ytbnaiogabcaboaa
open Go Go.ChangeShapes Go.WideShapes Go.ChangeAt Go.RowKit

theorem ownKnobs : ownKnob Try.prog.godebug = none := by kernel_rfl
theorem laidOut : laidOutB Try.prog = true := by kernel_rfl

theorem u64_nat {a : Int} (h : (Lit.int .u64 a).wf = true) : ∃ x : Nat, a = (x : Int) ∧ x < 18446744073709551616 := by
  simp only [Lit.wf, Bool.and_eq_true, decide_eq_true_eq] at h
  have h0 : IntKind.u64.min = 0 := rfl
  have h1 : IntKind.u64.max = 18446744073709551615 := rfl
  rw [h0, h1] at h
  exact ⟨a.toNat, by omega, by omega⟩

theorem open_words {H : Type} {enc : TypeId × Value → H} {w : World} {base b0 : Nat} {spare : Nat → Bool} {held : Bool} {r : Reach} {v : Value} {d : DataW H} {p : List MemPlace}
    (hv : Value.okWide Try.prog w r b0 25 v) (h : DataW.Trod enc Try.prog w base spare held 25 v d p) :
    ∃ (a : Option Addr) (n c : Nat) (zs : List Int), v = .slice a n c ∧ InRow w a n zs := by
  obtain ⟨a, n, c, rfl⟩ := okWide_slice Try.underlying25 hv
  obtain ⟨fuel, hf⟩ := h
  rcases open_ints Try.underlying25 Try.underlying26 (by kernel_rfl) hf with ⟨hcs, _⟩ | ⟨x, l, c', zs, hcs, _, hl, hm, hz, _, hcell, _⟩
  · simp [Value.cells] at hcs
    obtain ⟨rfl, rfl, rfl⟩ := hcs
    exact ⟨_, _, _, [], rfl, rfl, by simp, fun i hi => absurd hi (by omega)⟩
  · simp [Value.cells] at hcs
    obtain ⟨rfl, rfl, rfl⟩ := hcs
    have hnz : n ≤ zs.length := by rw [hz]; split <;> omega
    refine ⟨_, _, _, zs.take n, rfl, by simp; omega, by omega, fun i hi => ⟨x, rfl, ?_, ?_⟩⟩
    · have := World.block_lt_of_cell? w _ (hcell i (by omega))
      rwa [show (x.add i).block = x.block by unfold Addr.add; split <;> rfl] at this
    · rw [hcell i (by omega), List.getD_eq_getElem?_getD, List.getD_eq_getElem?_getD, List.getElem?_take, if_pos hi]

theorem open_calls {H : Type} {enc : TypeId × Value → H} {w : World} {base b0 : Nat} {spare : Nat → Bool} {held : Bool} {r : Reach} {v : Value} {d : DataW H} {p : List MemPlace}
    (hv : Value.okWide Try.prog w r b0 22 v) (h : DataW.Trod enc Try.prog w base spare held 22 v d p) :
    ∃ (a : Option Addr) (n c : Nat) (_zs : Unit), v = .slice a n c ∧ InCalls w a n := by
  obtain ⟨a, n, c, rfl⟩ := okWide_slice Try.underlying22 hv
  obtain ⟨fuel, hf⟩ := h
  rcases Go.Deep.open_slice Try.underlying22 hf with ⟨hcs, _⟩ | ⟨x, l, c', m, f, D, Pl, hcs, _, hl, hm, hmm, _, hi⟩
  · simp [Value.cells] at hcs
    obtain ⟨rfl, rfl, rfl⟩ := hcs
    exact ⟨_, _, _, (), rfl, by omega, fun i hi => absurd hi (by omega)⟩
  · simp [Value.cells] at hcs
    obtain ⟨rfl, rfl, rfl⟩ := hcs
    have hnm : n ≤ m := by rw [hmm]; split <;> omega
    refine ⟨_, _, _, (), rfl, by omega, fun i hin => ?_⟩
    obtain ⟨cs', hc, ht⟩ := hi i (by omega)
    have c4 : Try.prog.cellsOf 34 = 4 := by kernel_rfl
    have cI : Try.prog.cellsOf 3 = 1 := by kernel_rfl
    have cU : Try.prog.cellsOf 26 = 1 := by kernel_rfl
    rw [c4] at hc
    obtain ⟨_, hlen, hat⟩ := World.cells?_some hc
    obtain ⟨xs, f', _, _, _, hxs, hfs⟩ := DataW.trod_struct Try.underlying34 ht
    match cs', hlen with
    | [y0, y1, y2, y3], _ =>
      have g0 : DataW.trod enc Try.prog w base spare held f' 3 (([y0, y1, y2, y3].drop 0).take (Try.prog.cellsOf 3)) = xs[0]? := hfs 0 _ rfl
      rw [cI] at g0
      have g1 : DataW.trod enc Try.prog w base spare held f' 3 (([y0, y1, y2, y3].drop 1).take (Try.prog.cellsOf 3)) = xs[1]? := hfs 1 _ rfl
      rw [cI] at g1
      have g2 : DataW.trod enc Try.prog w base spare held f' 26 (([y0, y1, y2, y3].drop 2).take (Try.prog.cellsOf 26)) = xs[2]? := hfs 2 _ rfl
      rw [cU] at g2
      have g3 : DataW.trod enc Try.prog w base spare held f' 26 (([y0, y1, y2, y3].drop 3).take (Try.prog.cellsOf 26)) = xs[3]? := hfs 3 _ rfl
      rw [cU] at g3
      match xs, hxs with
      | [z0, z1, z2, z3], _ =>
        obtain ⟨x0, e0, _, _⟩ := DataW.trod_int Try.underlying3 (x := z0) g0
        obtain ⟨x1, e1, _, _⟩ := DataW.trod_int Try.underlying3 (x := z1) g1
        obtain ⟨x2, e2, _, _⟩ := DataW.trod_int Try.underlying26 (x := z2) g2
        obtain ⟨x3, e3, _, _⟩ := DataW.trod_int Try.underlying26 (x := z3) g3
        simp at e0 e1 e2 e3
        subst e0 e1 e2 e3
        have a0 := hat 0 (by omega)
        have a1 := hat 1 (by omega)
        have a2 := hat 2 (by omega)
        have a3 := hat 3 (by omega)
        rw [Go.Deep.add_add] at a0 a1 a2 a3
        refine ⟨x, x0, x1, x2, x3, rfl, ?_, a0, a1, a2, a3⟩
        have := World.block_lt_of_cell? w _ a0
        rwa [show (x.add (i * 4 + 0)).block = x.block by unfold Addr.add; split <;> rfl] at this
end Go.Proofs.Ytbnaiogabcaboaa
