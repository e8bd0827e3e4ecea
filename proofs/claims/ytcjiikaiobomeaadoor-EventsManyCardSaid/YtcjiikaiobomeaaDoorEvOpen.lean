/-
  Events that came in, opened.
-/
import Derived.Test.YtcjiikaiobomeaaDoorEvE
import Derived.OpenShut
import Derived.ProofKit
import Derived.ShutString
import Derived.ChangeOld
import Derived.Deep.Fields
namespace Go.Proofs.YtcjiikaiobomeaaDoor
open Go Go.ChangeShapes Go.WideShapes Go.ChangeAt Go.RowKit

set_option maxRecDepth 20000 in
/-- Five cells that read as an event's fields are five ints. -/
theorem five_ints {H : Type} {enc : TypeId × Value → H} {w : World} {base : Nat} {spare : Nat → Bool} {held : Bool} {fuel : Nat} {l : List Value} {x : DataW H × List MemPlace} (hl : l.length = 5)
    (ht : DataW.trod enc Tryd.prog w base spare held fuel 23 l = some x) : ∃ e : Ev, l = (evV e).toList := by
  have cI : Tryd.prog.cellsOf 3 = 1 := by kernel_rfl
  obtain ⟨xs, f', _, _, _, hxs, hfs⟩ := DataW.trod_struct Tryd.underlying23 ht
  match l, hl with
  | [y0, y1, y2, y3, y4], _ =>
    match xs, hxs with
    | [z0, z1, z2, z3, z4], _ =>
      have g0 : DataW.trod enc Tryd.prog w base spare held f' 3 (([y0, y1, y2, y3, y4].drop 0).take (Tryd.prog.cellsOf 3)) = some z0 := hfs 0 _ rfl
      have g1 : DataW.trod enc Tryd.prog w base spare held f' 3 (([y0, y1, y2, y3, y4].drop 1).take (Tryd.prog.cellsOf 3)) = some z1 := hfs 1 _ rfl
      have g2 : DataW.trod enc Tryd.prog w base spare held f' 3 (([y0, y1, y2, y3, y4].drop 2).take (Tryd.prog.cellsOf 3)) = some z2 := hfs 2 _ rfl
      have g3 : DataW.trod enc Tryd.prog w base spare held f' 3 (([y0, y1, y2, y3, y4].drop 3).take (Tryd.prog.cellsOf 3)) = some z3 := hfs 3 _ rfl
      have g4 : DataW.trod enc Tryd.prog w base spare held f' 3 (([y0, y1, y2, y3, y4].drop 4).take (Tryd.prog.cellsOf 3)) = some z4 := hfs 4 _ rfl
      rw [cI] at g0 g1 g2 g3 g4
      obtain ⟨x0, e0, _, _⟩ := DataW.trod_int Tryd.underlying3 g0
      obtain ⟨x1, e1, _, _⟩ := DataW.trod_int Tryd.underlying3 g1
      obtain ⟨x2, e2, _, _⟩ := DataW.trod_int Tryd.underlying3 g2
      obtain ⟨x3, e3, _, _⟩ := DataW.trod_int Tryd.underlying3 g3
      obtain ⟨x4, e4, _, _⟩ := DataW.trod_int Tryd.underlying3 g4
      simp at e0 e1 e2 e3 e4
      subst e0 e1 e2 e3 e4
      exact ⟨⟨x0, x1, x2, x3, x4⟩, rfl⟩
theorem open_ev {H : Type} {enc : TypeId × Value → H} {w : World} {base b0 : Nat} {spare : Nat → Bool} {held : Bool} {r : Reach} {v : Value} {d : DataW H} {p : List MemPlace}
    (hv : Value.okWide Tryd.prog w r b0 23 v) (h : DataW.Trod enc Tryd.prog w base spare held 23 v d p) : ∃ e : Ev, v = .agg (evV e) := by
  obtain ⟨cs, rfl, hsz⟩ := okWide_struct Tryd.underlying23 hv
  obtain ⟨fuel, hf⟩ := h
  have c5 : Tryd.prog.cellsOf 23 = 5 := by kernel_rfl
  rw [c5] at hsz
  have hf' : DataW.trod enc Tryd.prog w base spare held fuel 23 cs.toList = some (d, p) := hf
  obtain ⟨e, he⟩ := five_ints (by simpa using hsz) hf'
  exact ⟨e, by rw [← Array.toArray_toList (xs := cs), he]⟩
end Go.Proofs.YtcjiikaiobomeaaDoor
