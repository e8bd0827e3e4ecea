/-
  Contracts of the reference's Same and of the laws' same.
-/
import Derived.Test.YtbnaiogabcaboaaMemCallsD
import Derived.Test.YtbnaiogabcaboaaMemLawsA
namespace Go.Proofs.Ytbnaiogabcaboaa
open Go Go.RowKit Go.Shelf

/-- 'true', behind some draws. -/
def TrueDrawn (w : World) (e : Ending) (w' : World) : Prop := e = .returned (.bool true) ∧ ∃ m, w' = w.drewN m

theorem same_rows {w : World} {g g' n cap cap' : Nat} {X : List Int} (h : Row w g n cap X) (h' : Row w g' n cap' X) (hn : n ≤ 131072) :
    Calls Try.prog 29 #[.slice (some ⟨g, 0, none⟩) n cap, .slice (some ⟨g', 0, none⟩) n cap'] w (TrueDrawn w) := by
  have H := Lib.hid h
  have H' := Lib.hid h'
  clear h h'
  go_enter Try.func29, Try.ntmps29
  go_wp2_with fail
  go_loopw [5] (fun i wr => ∃ k m : Nat, k ≤ n ∧ i = .int .i64 k ∧ wr = w.drewN m) (fun i _ => n - (intOf i).toNat)
  case atStart => exact ⟨0, 0, by omega, rfl, rfl⟩
  case round =>
    obtain ⟨k, m, hk, rfl, rfl⟩ := hrel
    by_cases hlt : k < n
    · have hc := H.out.cell hlt
      have hc' := H'.out.cell hlt
      generalize X.getD k 0 = x at hc hc'
      have k0 : (0 : Int) ≤ (k : Int) := by omega
      have k1 : (k : Int) < (n : Int) := by omega
      go_wp2_with fail
      go_quiet (fail)
      go_wp2_with fail
      go_roundw
      case rel => exact ⟨k + 1, _, by omega, by go_num, rfl⟩
      case measure => simp [intOf]; omega
    · obtain rfl : k = n := by omega
      go_wp2
      go_ret
      exact ⟨rfl, m, rfl⟩

theorem same_end {w w1 w2 : World} (h1 : Below w.drew.heap.size w.drew w1) (h2 : Below w1.heap.size w1 w2) (m : Nat) : Below w.heap.size w (w2.drewN m) := by
  have a : Below w.heap.size w w1 := ⟨h1.os, h1.tape, h1.output, h1.size, h1.block⟩
  have b := a.trans (h2.mono a.size)
  exact ⟨b.os, b.tape, b.output, b.size, b.block⟩

theorem same_any {w : World} {p g cap q r cap' : Nat} {s : St} (h : Mem w p g cap s) (h' : Ref w q r cap' s) :
    Calls Try.prog 14 #[.pointer (some ⟨p, 0, none⟩), .pointer (some ⟨q, 0, none⟩)] w fun e w' => e = .returned (.bool true) ∧ Below w.heap.size w w' := by
  have heq := fun w => eq_access s.k s.i s.o s.v s.k s.i s.o s.v w
  simp only [beq_self_eq_true, Bool.and_true] at heq
  have H0 : w.drew.cell? ⟨q, 0, none⟩ = some (.slice (some ⟨r, 0, none⟩) s.X.length cap') := h'.blk.at_ 0
  have H1 : w.drew.cell? ⟨q, 1, none⟩ = some (.int .i64 s.k) := h'.blk.at_ 1
  have H2 : w.drew.cell? ⟨q, 2, none⟩ = some (.int .i64 s.i) := h'.blk.at_ 2
  have H3 : w.drew.cell? ⟨q, 3, none⟩ = some (.int .u64 s.o) := h'.blk.at_ 3
  have H4 : w.drew.cell? ⟨q, 4, none⟩ = some (.int .u64 s.v) := h'.blk.at_ 4
  have H5 : w.drew.cell? ⟨q, 5, none⟩ = some (.int .i64 s.c) := h'.blk.at_ 5
  have hm0 : Mem w.drew p g cap s := h.drewN 1
  have hr0 : Ref w.drew q r cap' s := h'.drewN 1
  go_enter Try.func14, Try.ntmps14
  go_wp2_with fail
  go_region_held3 (fun w' => Mem w' p g cap s ∧ Ref w' q r cap' s ∧ w'.cell? ⟨q, 0, none⟩ = some (.slice (some ⟨r, 0, none⟩) s.X.length cap') ∧ w'.cell? ⟨q, 1, none⟩ = some (.int .i64 s.k) ∧ w'.cell? ⟨q, 2, none⟩ = some (.int .i64 s.i) ∧
      w'.cell? ⟨q, 3, none⟩ = some (.int .u64 s.o) ∧ w'.cell? ⟨q, 4, none⟩ = some (.int .u64 s.v) ∧ w'.cell? ⟨q, 5, none⟩ = some (.int .i64 s.c)) (go_keep)
    (first
      | (go_at_call 15; refine (size_any hm0).mono ?_; rintro e w1 ⟨rfl, rfl⟩)
      | (go_at_call 16; refine (count_any hm0).mono ?_; rintro e w1 ⟨rfl, rfl⟩)
      | (go_at_call 17; refine (last_any hm0).mono ?_; rintro e w1 ⟨rfl, hb1⟩; have hm1 := hm0.fr (Fr.old (S := []) hb1) (by simp) (by simp); have hr1 := hr0.fr (Fr.old (S := []) hb1) (by simp) (by simp); have i0 := hr1.blk.at_ 0; have i1 := hr1.blk.at_ 1; have i2 := hr1.blk.at_ 2; have i3 := hr1.blk.at_ 3; have i4 := hr1.blk.at_ 4; have i5 := hr1.blk.at_ 5)
      | (go_at_call 21; refine (cells_any hm1).mono ?_; rintro e w2 ⟨g2, c2, rfl, hg2, hrow2, hb2⟩; have hm2 := hm1.fr (Fr.old (S := []) hb2) (by simp) (by simp); have hr2 := hr1.fr (Fr.old (S := []) hb2) (by simp) (by simp); have j0 := hr2.blk.at_ 0; have j1 := hr2.blk.at_ 1; have j2 := hr2.blk.at_ 2; have j3 := hr2.blk.at_ 3; have j4 := hr2.blk.at_ 4; have j5 := hr2.blk.at_ 5)
      | (go_at_call 29; refine (same_rows hrow2 hr2.row hr2.small).mono ?_; rintro e w3 ⟨rfl, m3, rfl⟩; have hm3 := hm2.drewN m3; have hr3 := hr2.drewN m3))
  have hz := same_end hb1 hb2 m3
  clear H0 H1 H2 H3 H4 H5 hm0 hr0 hm1 hr1 hm2 hr2 hm3 hr3 i0 i1 i2 i3 i4 i5 j0 j1 j2 j3 j4 j5 hrow2 hb1 hb2 heq
  go_wp2
  go_ret
  exact ⟨rfl, hz⟩
end Go.Proofs.Ytbnaiogabcaboaa
