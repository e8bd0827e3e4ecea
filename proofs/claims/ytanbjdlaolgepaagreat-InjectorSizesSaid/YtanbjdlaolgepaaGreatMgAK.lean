/-
  The reference's Make.
  The reference's environment with less below it. No function is named.
-/
import Derived.Test.YtanbjdlaolgepaaGreatMgAI
import Derived.Test.YtanbjdlaolgepaaGreatMgAF
import Derived.Test.YtanbjdlaolgepaaGreatMgAH
namespace Go.Proofs.YtanbjdlaolgepaaGreat
open Go Go.RowKit
set_option linter.unusedSimpArgs false

/-- What Make gives. -/
def Made (f : Fra) (w : World) (e : Ending) (w' : World) : Prop := ∃ m g cap, e = .returned (.pointer (some ⟨m, 0, none⟩)) ∧ Mach1 w.heap.size w' m g cap [] { f with ln := 1 } ∧ Below w.heap.size w w'
set_option maxHeartbeats 2000000 in
theorem make_any (f : Fra) (w : World) (hk : (f.kd == 22) = false) : Calls Tryz.prog 14 #[.agg (fcells f).toArray] w (Made f w) := by
  have hX := Blk.made w 64 (fcells f).toArray
  have HX := Lib.hid hX
  have HB := Lib.hid (below_one w (.cells (fcells f).toArray 64))
  have x0 := hX.at_ 0
  have x1 := hX.at_ 1
  have x2 := hX.at_ 2
  have x3 := hX.at_ 3
  have x4 := hX.at_ 4
  have x5 := hX.at_ 5
  have x6 := hX.at_ 6
  have x7 := hX.at_ 7
  have x8 := hX.at_ 8
  have x9 := hX.at_ 9
  have x10 := hX.at_ 10
  have x11 := hX.at_ 11
  have x12 := hX.at_ 12
  have x13 := hX.at_ 13
  have x14 := hX.at_ 14
  have x15 := hX.at_ 15
  have x16 := hX.at_ 16
  have x17 := hX.at_ 17
  have y1 := hX.free 1
  simp only [List.getElem?_toArray, List.getElem?_cons_zero, List.getElem?_cons_succ] at x0 x1 x2 x3 x4 x5 x6 x7 x8 x9 x10 x11 x12 x13 x14 x15 x16 x17
  clear hX
  go_enter Tryz.func14, Tryz.ntmps14
  go_upto_region 1 with fail
  generalize w.alloc (.cells (fcells f).toArray 64) = W at *
  go_wp2
  go_ret
  have hs1 := HB.out.size
  have hB2 := HB.out.setCell (show w.heap.size ≤ (⟨w.heap.size, 1, none⟩ : Addr).block from Nat.le_refl _) (.int .i64 1)
  have hz : (W.setCell ⟨w.heap.size, 1, none⟩ (.int .i64 1)).heap.size = W.heap.size := by simp [World.setCell]
  have b1 := below_one (W.setCell ⟨w.heap.size, 1, none⟩ (.int .i64 1)) (.cells (fcells { f with ln := 1 }).toArray 64)
  have b2 := below_one ((W.setCell ⟨w.heap.size, 1, none⟩ (.int .i64 1)).alloc (.cells (fcells { f with ln := 1 }).toArray 64)) (.cells (mcells W.heap.size 1 1 false 0 0) 100)
  have hF := Blk.made (W.setCell ⟨w.heap.size, 1, none⟩ (.int .i64 1)) 64 (fcells { f with ln := 1 }).toArray
  have hM := Blk.made ((W.setCell ⟨w.heap.size, 1, none⟩ (.int .i64 1)).alloc (.cells (fcells { f with ln := 1 }).toArray 64)) 100 (mcells W.heap.size 1 1 false 0 0)
  rw [hz] at hF
  have hz2 : ((W.setCell ⟨w.heap.size, 1, none⟩ (.int .i64 1)).alloc (.cells (fcells { f with ln := 1 }).toArray 64)).heap.size = W.heap.size + 1 := by simp [hz]
  have hb3 := b2
  rw [hz2] at hM b2
  have hsz := b1.size
  refine ⟨_, W.heap.size, 1, rfl, ⟨hM, ⟨?_, rfl⟩, ?_, by omega, by omega⟩, (hB2.trans (b1.mono (by omega))).trans (b2.mono (by omega))⟩
  · have := hF.below hb3
    simpa using this
  · omega
end Go.Proofs.YtanbjdlaolgepaaGreat

namespace Go.Proofs.YtanbjdlaolgepaaGreat
open Go Go.RowKit
set_option linter.unusedSimpArgs false
theorem row_low {w : World} {base base' : Nat} {t : TypeId} {s : Nat} {v : Value} {n : Nat} {vs : List Value} (h : w.ownsRow base t s v n vs) (hb : base' ≤ base) : w.ownsRow base' t s v n vs := by
  refine ⟨h.1, ?_⟩
  rcases h.2 with h4 | ⟨g, cap, cur, rfl, h4, rest⟩
  · exact .inl h4
  · exact .inr ⟨g, cap, cur, rfl, Nat.le_trans hb h4, rest⟩
theorem OwnR.low {w : World} {base base' : Nat} {v : Value} {l : List Rec} (h : OwnR w base v l) (hb : base' ≤ base) : OwnR w base' v l := by
  obtain ⟨ks, h1, h2, h3⟩ := h
  exact ⟨ks, h1, row_low h2 hb, fun i hi => row_low (h3 i hi) hb⟩
/-- The same environment, with less below it. -/
theorem EnvF.low {B B0 : Nat} {w : World} {p : Nat} {a : EnvA} {s : St} {es : List Ev} {rs : List Rec} (h : EnvF B w p a s es rs) (hb : B0 ≤ B) {W0 : World} (h0 : W0.heap.size = B0) (hl : Lists W0 0 a.c a.pa a.pn a.sa a.sn) (hw : Below B0 W0 w) : EnvF B0 w p a s es rs :=
  ⟨h.m, row_low h.ev hb, h.rc.low hb, ⟨W0, h0, hl, hw⟩, Nat.le_trans hb h.hp, Nat.le_trans hb h.hg⟩
end Go.Proofs.YtanbjdlaolgepaaGreat
