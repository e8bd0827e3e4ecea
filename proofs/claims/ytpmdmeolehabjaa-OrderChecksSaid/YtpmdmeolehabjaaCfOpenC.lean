/-
  Configurations that came in, opened.
-/
import Derived.Test.YtpmdmeolehabjaaCfOpen
import Derived.Lib.SmallJoins
namespace Go.Proofs.Ytpmdmeolehabjaa
open Go Go.ChangeShapes Go.WideShapes Go.ChangeAt Go.RowKit Go.Joins

set_option maxRecDepth 100000 in
theorem tris_ins {H : Type} {enc : TypeId × Value → H} {w : World} {base : Nat} {spare : Nat → Bool} {held : Bool} {fuel : Nat} {cs0 : List Value} {y : DataW H × List MemPlace}
    (hf : DataW.trod enc Try.prog w base spare held fuel 48 cs0 = some y) : ∃ (a : Option Addr) (n c : Nat) (l : List T3), cs0 = [.slice a n c] ∧ Tris w 0 a n l := by
  rcases Go.Deep.open_slice Try.underlying48 hf with ⟨hcs, _⟩ | ⟨x, l, c', m, f, D, Pl, hcs, _, hl, hm, hmm, _, hi⟩
  · exact ⟨_, _, _, [], hcs, tris_nil _ _ _⟩
  · have hnm : l ≤ m := by rw [hmm]; split <;> omega
    have each : ∀ i, i < l → ∃ e : T3, x.block < w.heap.size ∧ w.cell? (x.add (i * 3)) = some (.int .i64 e.1) ∧ w.cell? (x.add (i * 3 + 1)) = some (.int .i64 e.2.1) ∧ w.cell? (x.add (i * 3 + 2)) = some (.int .i64 e.2.2) := by
      intro i hin
      obtain ⟨cs', hc, ht⟩ := hi i (by omega)
      have c2 : Try.prog.cellsOf 54 = 3 := by kernel_rfl
      have cI : Try.prog.cellsOf 3 = 1 := by kernel_rfl
      rw [c2] at hc
      obtain ⟨_, hlen, hat⟩ := World.cells?_some hc
      obtain ⟨xs, f', _, _, _, hxs, hfs⟩ := DataW.trod_struct Try.underlying54 ht
      match cs', hlen with
      | [y0, y1, y2], _ =>
        have g0 : DataW.trod enc Try.prog w base spare held f' 3 (([y0, y1, y2].drop 0).take (Try.prog.cellsOf 3)) = xs[0]? := hfs 0 _ rfl
        rw [cI] at g0
        have g1 : DataW.trod enc Try.prog w base spare held f' 3 (([y0, y1, y2].drop 1).take (Try.prog.cellsOf 3)) = xs[1]? := hfs 1 _ rfl
        rw [cI] at g1
        have g2 : DataW.trod enc Try.prog w base spare held f' 3 (([y0, y1, y2].drop 2).take (Try.prog.cellsOf 3)) = xs[2]? := hfs 2 _ rfl
        rw [cI] at g2
        match xs, hxs with
        | [z0, z1, z2], _ =>
          obtain ⟨x0, e0, _, _⟩ := DataW.trod_int Try.underlying3 (x := z0) g0
          obtain ⟨x1, e1, _, _⟩ := DataW.trod_int Try.underlying3 (x := z1) g1
          obtain ⟨x2, e2, _, _⟩ := DataW.trod_int Try.underlying3 (x := z2) g2
          simp at e0 e1 e2
          subst e0 e1 e2
          have a0 := hat 0 (by omega)
          have a1 := hat 1 (by omega)
          have a2 := hat 2 (by omega)
          rw [Go.Deep.add_add] at a0 a1 a2
          refine ⟨(x0, x1, x2), ?_, a0, a1, a2⟩
          have := World.block_lt_of_cell? w _ a0
          rwa [show (x.add (i * 3 + 0)).block = x.block by unfold Addr.add; split <;> rfl] at this
    obtain ⟨es, hes, hp⟩ := list_of z3 _ l each
    exact ⟨_, _, _, es, hcs, ⟨hes, by omega, fun i hi => ⟨x, rfl, Nat.zero_le _, hp i hi⟩⟩⟩

set_option maxRecDepth 100000 in
theorem tris_sub {H : Type} {enc : TypeId × Value → H} {w : World} {base : Nat} {spare : Nat → Bool} {held : Bool} {fuel : Nat} {cs0 : List Value} {y : DataW H × List MemPlace}
    (hf : DataW.trod enc Try.prog w base spare held fuel 23 cs0 = some y) : ∃ (a : Option Addr) (n c : Nat) (l : List T3), cs0 = [.slice a n c] ∧ Tris w 0 a n l := by
  rcases Go.Deep.open_slice Try.underlying23 hf with ⟨hcs, _⟩ | ⟨x, l, c', m, f, D, Pl, hcs, _, hl, hm, hmm, _, hi⟩
  · exact ⟨_, _, _, [], hcs, tris_nil _ _ _⟩
  · have hnm : l ≤ m := by rw [hmm]; split <;> omega
    have each : ∀ i, i < l → ∃ e : T3, x.block < w.heap.size ∧ w.cell? (x.add (i * 3)) = some (.int .i64 e.1) ∧ w.cell? (x.add (i * 3 + 1)) = some (.int .i64 e.2.1) ∧ w.cell? (x.add (i * 3 + 2)) = some (.int .i64 e.2.2) := by
      intro i hin
      obtain ⟨cs', hc, ht⟩ := hi i (by omega)
      have c2 : Try.prog.cellsOf 47 = 3 := by kernel_rfl
      have cI : Try.prog.cellsOf 3 = 1 := by kernel_rfl
      rw [c2] at hc
      obtain ⟨_, hlen, hat⟩ := World.cells?_some hc
      obtain ⟨xs, f', _, _, _, hxs, hfs⟩ := DataW.trod_struct Try.underlying47 ht
      match cs', hlen with
      | [y0, y1, y2], _ =>
        have g0 : DataW.trod enc Try.prog w base spare held f' 3 (([y0, y1, y2].drop 0).take (Try.prog.cellsOf 3)) = xs[0]? := hfs 0 _ rfl
        rw [cI] at g0
        have g1 : DataW.trod enc Try.prog w base spare held f' 3 (([y0, y1, y2].drop 1).take (Try.prog.cellsOf 3)) = xs[1]? := hfs 1 _ rfl
        rw [cI] at g1
        have g2 : DataW.trod enc Try.prog w base spare held f' 3 (([y0, y1, y2].drop 2).take (Try.prog.cellsOf 3)) = xs[2]? := hfs 2 _ rfl
        rw [cI] at g2
        match xs, hxs with
        | [z0, z1, z2], _ =>
          obtain ⟨x0, e0, _, _⟩ := DataW.trod_int Try.underlying3 (x := z0) g0
          obtain ⟨x1, e1, _, _⟩ := DataW.trod_int Try.underlying3 (x := z1) g1
          obtain ⟨x2, e2, _, _⟩ := DataW.trod_int Try.underlying3 (x := z2) g2
          simp at e0 e1 e2
          subst e0 e1 e2
          have a0 := hat 0 (by omega)
          have a1 := hat 1 (by omega)
          have a2 := hat 2 (by omega)
          rw [Go.Deep.add_add] at a0 a1 a2
          refine ⟨(x0, x1, x2), ?_, a0, a1, a2⟩
          have := World.block_lt_of_cell? w _ a0
          rwa [show (x.add (i * 3 + 0)).block = x.block by unfold Addr.add; split <;> rfl] at this
    obtain ⟨es, hes, hp⟩ := list_of z3 _ l each
    exact ⟨_, _, _, es, hcs, ⟨hes, by omega, fun i hi => ⟨x, rfl, Nat.zero_le _, hp i hi⟩⟩⟩

set_option maxRecDepth 100000 in
theorem prgs_in {H : Type} {enc : TypeId × Value → H} {w : World} {base : Nat} {spare : Nat → Bool} {held : Bool} {fuel : Nat} {cs0 : List Value} {y : DataW H × List MemPlace}
    (hf : DataW.trod enc Try.prog w base spare held fuel 22 cs0 = some y) : ∃ (a : Option Addr) (n c : Nat) (l : List (List T3)), cs0 = [.slice a n c] ∧ Prgs w 0 a n l := by
  have c1 : Try.prog.cellsOf 48 = 1 := by kernel_rfl
  rcases Go.Deep.open_slice1 Try.underlying22 c1 hf with ⟨hcs, _⟩ | ⟨x, l, c', m, f, V, D, Pl, hcs, _, hl, hm, hmm, _, hi⟩
  · exact ⟨_, _, _, [], hcs, prgs_nil _ _ _⟩
  · have hnm : l ≤ m := by rw [hmm]; split <;> omega
    have each : ∀ i, i < l → ∃ p : List T3, ∃ (b : Option Addr) (k c : Nat), x.block < w.heap.size ∧ w.cell? (x.add i) = some (.slice b k c) ∧ Tris w 0 b k p := by
      intro i hin
      obtain ⟨hc, ht⟩ := hi i (by omega)
      obtain ⟨b, k, c, p, e, hp⟩ := tris_ins ht
      simp at e
      rw [e] at hc
      refine ⟨p, b, k, c, ?_, hc, hp⟩
      have := World.block_lt_of_cell? w _ hc
      rwa [block_add] at this
    obtain ⟨es, hes, hp⟩ := list_of [] _ l each
    refine ⟨_, _, _, es, hcs, ⟨hes, by omega, fun i hi => ?_⟩⟩
    obtain ⟨b, k, c, h1, h2, h3⟩ := hp i hi
    exact ⟨x, b, k, c, rfl, Nat.zero_le _, h1, h2, h3⟩

set_option maxRecDepth 100000 in
theorem open_cfg {H : Type} {enc : TypeId × Value → H} {w : World} {base b0 : Nat} {spare : Nat → Bool} {held : Bool} {r : Reach} {v : Value} {d : DataW H} {p : List MemPlace}
    (hv : Value.okWide Try.prog w r b0 25 v) (h : DataW.Trod enc Try.prog w base spare held 25 v d p) :
    ∃ (c : Cfg) (pa : Option Addr) (pn pc : Nat) (sa : Option Addr) (sn sc : Nat), v = cv c pa pn pc sa sn sc ∧ Lists w 0 c pa pn sa sn := by
  obtain ⟨cs, rfl, hsz⟩ := okWide_struct Try.underlying25 hv
  have hC : Try.prog.cellsOf 25 = 11 := by kernel_rfl
  have cI : Try.prog.cellsOf 3 = 1 := by kernel_rfl
  have cP : Try.prog.cellsOf 22 = 1 := by kernel_rfl
  have cS : Try.prog.cellsOf 23 = 1 := by kernel_rfl
  rw [hC] at hsz
  obtain ⟨cl⟩ := cs
  obtain ⟨fuel, hf⟩ := h
  obtain ⟨xs, f', _, _, _, hxs, hfs⟩ := DataW.trod_struct Try.underlying25 hf
  match cl, hsz with
  | [y0, y1, y2, y3, y4, y5, y6, y7, y8, y9, y10], _ =>
    have g0 : DataW.trod enc Try.prog w base spare held f' 3 (([y0, y1, y2, y3, y4, y5, y6, y7, y8, y9, y10].drop 0).take (Try.prog.cellsOf 3)) = xs[0]? := hfs 0 _ rfl
    rw [cI] at g0
    have g1 : DataW.trod enc Try.prog w base spare held f' 3 (([y0, y1, y2, y3, y4, y5, y6, y7, y8, y9, y10].drop 1).take (Try.prog.cellsOf 3)) = xs[1]? := hfs 1 _ rfl
    rw [cI] at g1
    have g2 : DataW.trod enc Try.prog w base spare held f' 3 (([y0, y1, y2, y3, y4, y5, y6, y7, y8, y9, y10].drop 2).take (Try.prog.cellsOf 3)) = xs[2]? := hfs 2 _ rfl
    rw [cI] at g2
    have g3 : DataW.trod enc Try.prog w base spare held f' 3 (([y0, y1, y2, y3, y4, y5, y6, y7, y8, y9, y10].drop 3).take (Try.prog.cellsOf 3)) = xs[3]? := hfs 3 _ rfl
    rw [cI] at g3
    have g4 : DataW.trod enc Try.prog w base spare held f' 3 (([y0, y1, y2, y3, y4, y5, y6, y7, y8, y9, y10].drop 4).take (Try.prog.cellsOf 3)) = xs[4]? := hfs 4 _ rfl
    rw [cI] at g4
    have g5 : DataW.trod enc Try.prog w base spare held f' 3 (([y0, y1, y2, y3, y4, y5, y6, y7, y8, y9, y10].drop 5).take (Try.prog.cellsOf 3)) = xs[5]? := hfs 5 _ rfl
    rw [cI] at g5
    have g6 : DataW.trod enc Try.prog w base spare held f' 3 (([y0, y1, y2, y3, y4, y5, y6, y7, y8, y9, y10].drop 6).take (Try.prog.cellsOf 3)) = xs[6]? := hfs 6 _ rfl
    rw [cI] at g6
    have g7 : DataW.trod enc Try.prog w base spare held f' 3 (([y0, y1, y2, y3, y4, y5, y6, y7, y8, y9, y10].drop 7).take (Try.prog.cellsOf 3)) = xs[7]? := hfs 7 _ rfl
    rw [cI] at g7
    have g8 : DataW.trod enc Try.prog w base spare held f' 3 (([y0, y1, y2, y3, y4, y5, y6, y7, y8, y9, y10].drop 8).take (Try.prog.cellsOf 3)) = xs[8]? := hfs 8 _ rfl
    rw [cI] at g8
    have g9 : DataW.trod enc Try.prog w base spare held f' 22 (([y0, y1, y2, y3, y4, y5, y6, y7, y8, y9, y10].drop 9).take (Try.prog.cellsOf 22)) = xs[9]? := hfs 9 _ rfl
    rw [cP] at g9
    have g10 : DataW.trod enc Try.prog w base spare held f' 23 (([y0, y1, y2, y3, y4, y5, y6, y7, y8, y9, y10].drop 10).take (Try.prog.cellsOf 23)) = xs[10]? := hfs 10 _ rfl
    rw [cS] at g10
    match xs, hxs with
    | [z0, z1, z2, z3, z4, z5, z6, z7, z8, z9, z10], _ =>
      obtain ⟨x0, e0, _, _⟩ := DataW.trod_int Try.underlying3 (x := z0) g0
      obtain ⟨x1, e1, _, _⟩ := DataW.trod_int Try.underlying3 (x := z1) g1
      obtain ⟨x2, e2, _, _⟩ := DataW.trod_int Try.underlying3 (x := z2) g2
      obtain ⟨x3, e3, _, _⟩ := DataW.trod_int Try.underlying3 (x := z3) g3
      obtain ⟨x4, e4, _, _⟩ := DataW.trod_int Try.underlying3 (x := z4) g4
      obtain ⟨x5, e5, _, _⟩ := DataW.trod_int Try.underlying3 (x := z5) g5
      obtain ⟨x6, e6, _, _⟩ := DataW.trod_int Try.underlying3 (x := z6) g6
      obtain ⟨x7, e7, _, _⟩ := DataW.trod_int Try.underlying3 (x := z7) g7
      obtain ⟨x8, e8, _, _⟩ := DataW.trod_int Try.underlying3 (x := z8) g8
      obtain ⟨pa, pn, pc, pr, e9, h9⟩ := prgs_in (y := z9) g9
      obtain ⟨sa, sn, sc, su, e10, h10⟩ := tris_sub (y := z10) g10
      simp at e0 e1 e2 e3 e4 e5 e6 e7 e8 e9 e10
      subst e0 e1 e2 e3 e4 e5 e6 e7 e8 e9 e10
      exact ⟨⟨x0, x1, x2, x3, x4, x5, x6, x7, x8, pr, su⟩, pa, pn, pc, sa, sn, sc, rfl, h9, h10⟩
end Go.Proofs.Ytpmdmeolehabjaa
