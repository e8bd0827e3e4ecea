/-
  The reference's New of a memory. (Taken out of XMemCallsB and XMemCallsD.)
  The reference's Bare.
-/
import Derived.Test.YtllllbepnnpeeaaGreatMgAB
import Derived.Test.YtllllbepnnpeeaaGreatMgAE
import Derived.Shelf.Abstract
import Derived.Outline
import Derived.Below
import Derived.Laws.StructEq
import Derived.Deep.OwnRows
import Derived.Maps.AppendAt
import Derived.OwnWalk
import Derived.WalkSpells
import Derived.WalkLawsBesides
import Derived.Lib.Hide
import Derived.IntWalk
import Derived.Test.YtllllbepnnpeeaaGreatMgAH
namespace Go.Proofs.YtllllbepnnpeeaaGreat
open Go Go.RowKit Go.Shelf
set_option maxRecDepth 100000

/-- What the reference's New gives: a memory by value. -/
def RNew (w : World) (n : Nat) (e : Ending) (w' : World) : Prop :=
  e = .returned (.agg #[.slice (some ⟨w.heap.size + 1, 0, none⟩) n n, .int .i64 0, .int .i64 0, .int .u64 0, .int .u64 0, .int .i64 0]) ∧ Row w' (w.heap.size + 1) n n (List.replicate n 0) ∧ Below w.heap.size w w'

theorem rnew_end (w : World) (n : Nat) (hn : n ≤ 131072) (o : Obj) :
    RNew w n (.returned (.agg #[.slice (some ⟨w.heap.size + 1, 0, none⟩) n n, .int .i64 0, .int .i64 0, .int .u64 0, .int .u64 0, .int .i64 0])) ((w.alloc o).alloc (.cells (madeCells #[.int .u64 0] n) 53)) := by
  refine ⟨rfl, ?_, ((Below.refl _ _).alloc (Nat.le_refl _) _).alloc (by simp) _⟩
  have := made_row (w.alloc o) n hn
  simpa using this

theorem rnew_any (c : Int) (w : World) : Calls Tryz.prog 54 #[.int .i64 c] w (RNew w (sizeS c)) := by
  have hmk := fun (n : Nat) (hn : n ≤ 131072) (W : World) => run_make_row' (P := Tryz.prog) 40 53 (.int .u64 0) 8 Tryz.underlying40 info_u64 rfl .i64 .i64 n (by omega) (by omega) W
  have HE := Lib.hid (rnew_end w)
  by_cases h1 : c ≤ 0
  · have e : sizeS c = 0 := by unfold sizeS; rw [if_pos (by omega)]
    rw [e]
    clear e
    have hk := hmk 0 (by omega)
    rw [show ((0 : Nat) : Int) = 0 from rfl] at hk
    clear hmk
    go_enter Tryz.func54, Tryz.ntmps54
    go_wp2
    exact bodyPost_ret (v := .agg #[.slice (some ⟨w.heap.size + 1, 0, none⟩) 0 0, .int .i64 0, .int .i64 0, .int .u64 0, .int .u64 0, .int .i64 0]) (by simp [results, Tryz.results54, go_sem]) rfl (HE.out 0 (by omega) _)
  · by_cases h2 : c ≤ 131072
    · obtain ⟨n, rfl⟩ : ∃ n : Nat, c = (n : Int) := ⟨c.toNat, by omega⟩
      have e : sizeS n = n := by unfold sizeS; rw [if_neg h1, if_pos h2]; omega
      rw [e]
      clear e
      have hk := hmk n (by omega)
      clear hmk
      go_enter Tryz.func54, Tryz.ntmps54
      go_wp2
      exact bodyPost_ret (v := .agg #[.slice (some ⟨w.heap.size + 1, 0, none⟩) n n, .int .i64 0, .int .i64 0, .int .u64 0, .int .u64 0, .int .i64 0]) (by simp [results, Tryz.results54, go_sem]) rfl (HE.out n (by omega) _)
    · have e : sizeS c = 131072 := by unfold sizeS; rw [if_neg h1, if_neg h2]
      rw [e]
      clear e
      have hk := hmk 131072 (by omega)
      rw [show ((131072 : Nat) : Int) = 131072 from rfl] at hk
      clear hmk
      go_enter Tryz.func54, Tryz.ntmps54
      go_wp2
      exact bodyPost_ret (v := .agg #[.slice (some ⟨w.heap.size + 1, 0, none⟩) 131072 131072, .int .i64 0, .int .i64 0, .int .u64 0, .int .u64 0, .int .i64 0]) (by simp [results, Tryz.results54, go_sem]) rfl (HE.out 131072 (by omega) _)
end Go.Proofs.YtllllbepnnpeeaaGreat

namespace Go.Proofs.YtllllbepnnpeeaaGreat
open Go Go.RowKit
set_option linter.unusedSimpArgs false

/-- What a bare environment holds besides its memory. -/
abbrev bareC : Cfg := ⟨0, 0, 0, 0, 0, 0, 0, 0, 0, [], []⟩
abbrev bareA (g cap : Nat) : EnvA := ⟨bareC, none, 0, 0, none, 0, 0, g, cap, 0, 0, .slice none 0 0, .slice none 0 0⟩
/-- What Bare gives. -/
def Bared (n : Nat) (w : World) (e : Ending) (w' : World) : Prop := ∃ p g cap, e = .returned (.pointer (some ⟨p, 0, none⟩)) ∧ EnvF w.heap.size w' p (bareA g cap) (St.new n) [] [] ∧ Below w.heap.size w w'

set_option maxHeartbeats 2000000 in
theorem bare_any (c : Int) (w : World) : Calls Tryz.prog 29 #[.int .i64 c] w (Bared (sizeS c) w) := by
  have hn : sizeS c ≤ 131072 := by unfold sizeS; split <;> (try split) <;> omega
  have HN := Lib.hid hn
  clear hn
  go_enter Tryz.func29, Tryz.ntmps29
  go_wp2_with fail
  (with_reducible refine (rnew_any c _).mono ?_)
  rintro e w1 ⟨rfl, hrow, hb⟩
  generalize sizeS c = n at *
  have HR := Lib.hid hrow
  have HB := Lib.hid hb
  clear hrow hb
  go_wp2
  go_ret
  have hb2 := below_one w1 (.cells (ecells (bareA (w.heap.size + 1) n) (St.new n)) 115)
  have hw : (St.new n).X.length = n := by simp [St.new]
  have hs := HB.out.size
  have hlt := HR.out.lt
  refine ⟨w1.heap.size, w.heap.size + 1, n, rfl, ⟨⟨?_, ?_, by rw [hw]; exact HN.out⟩, World.ownsRow_nil _ _ _ _, ⟨[], rfl, World.ownsRow_nil _ _ _ _, fun i hi => by simp at hi⟩, ⟨w, rfl, ⟨prgs_nil _ _ _, tris_nil _ _ _⟩, ?_⟩, by omega, by show w.heap.size ≤ w.heap.size + 1; omega⟩, ?_⟩
  · have := Blk.made w1 115 (ecells (bareA (w.heap.size + 1) n) (St.new n))
    simpa [ecells, St.new] using this
  · have hr := HR.out.of_same (w' := w1.alloc (.cells (ecells (bareA (w.heap.size + 1) n) (St.new n)) 115)) (Below.heap_alloc w1 _ _ hlt)
    rw [hw]
    simpa [ecells, St.new] using hr
  · have := HB.out.trans (hb2.mono hs)
    simpa [ecells, St.new] using this
  · have := HB.out.trans (hb2.mono hs)
    simpa [ecells, St.new] using this
end Go.Proofs.YtllllbepnnpeeaaGreat
