/-
  Pure: the word of one bit; the lines of a set and of a clear; what they keep. No function and no type is named.
  Package bitmap: at.
-/
import Derived.Test.YtmoblcfjplolgaaMgAN
import Derived.Laws.BitsAllLaws
import Derived.Test.YtmoblcfjplolgaaMgAI
namespace Go.Proofs.Ytmoblcfjplolgaa
open Go Go.RowKit
set_option linter.unusedSimpArgs false

/-- The word of one bit. -/
def maskS (i : Int) : Int := if i < 0 ∨ 63 < i then 0 else ((2 ^ i.toNat : Nat) : Int)
/-- The complement of a word, as the program's arithmetic has it. -/
abbrev notU (x : Int) : Int := bits .xor .u64 (if IntKind.u64.signed = true then -1 else IntKind.u64.max) x
/-- A line of clearBit. -/
def clearS (s : St) (f : Fra) : St × Fra × Res :=
  if f.ln = 1 then (s.go 5 f.fa (fun x => bits .and .u64 x (notU (maskS f.fb))), { f with ln := 2 }, .none)
  else if f.ln = 2 then (s.go 1 f.qb id, { f with fu := s.old f.qb, ln := 3 }, .none)
  else if f.ln = 3 then
    if sizeI f.fu (s.old f.qt) ≤ 0 then (s.go 1 f.qt id, { f with fv := s.old f.qt }, ⟨true, 2, 0⟩)
    else (s.go 1 f.qt id, { f with fv := s.old f.qt, ln := 4 }, .none)
  else (s.go 4 f.fa (fun x => bits .or .u64 x (maskS f.fb)), f, ⟨true, 1, 0⟩)
/-- The line of set. -/
def setS (s : St) (f : Fra) : St × Fra × Res := (s.go 4 f.fa (fun x => bits .or .u64 x (maskS f.fb)), f, ⟨true, 0, 0⟩)
def SetOk (f : Fra) : Prop := f.ln = 1 ∧ 0 ≤ f.fu ∧ 0 ≤ f.fv ∧ f.qc ≤ 9223372036854775807
theorem set_keeps : Keeps setS SetOk := by
  refine ⟨fun s f hs h => go_N hs _ _ _ (fun x hx => u64_nn _), fun s f hs h hd => absurd hd (by simp [setS]), fun s f hs h => ⟨h.2.1, h.2.2.1⟩, fun s f h => go_c _ _ _ h, fun s f hd => absurd hd (by simp [setS]), fun s f => ⟨rfl, rfl, rfl⟩, fun s f => go_len _ _ _ _⟩
theorem clear_keeps : Keeps clearS StealOk := by
  refine ⟨fun s f hs h => ?_, fun s f hs h hd => ?_, fun s f hs h => ?_, fun s f h => ?_, fun s f hd => ?_, fun s f => ?_, fun s f => ?_⟩
  · unfold clearS
    split
    · exact go_N hs _ _ _ (fun x hx => u64_nn _)
    split
    · exact go_N hs _ _ _ (fun x hx => hx)
    split
    · split <;> exact go_N hs _ _ _ (fun x hx => hx)
    · exact go_N hs _ _ _ (fun x hx => u64_nn _)
  · obtain ⟨hl, hu, hv, hq⟩ := h
    revert hd
    unfold clearS
    split
    · intro _
      exact ⟨.inr (.inl rfl), hu, hv, hq⟩
    split
    · intro _
      exact ⟨.inr (.inr (.inl rfl)), hs _, hv, hq⟩
    split
    · split
      · intro hd
        exact absurd hd (by simp)
      · intro _
        exact ⟨.inr (.inr (.inr rfl)), hu, hs _, hq⟩
    · intro hd
      exact absurd hd (by simp)
  · obtain ⟨hl, hu, hv, hq⟩ := h
    unfold clearS
    split
    · exact ⟨hu, hv⟩
    split
    · exact ⟨hs _, hv⟩
    split
    · split <;> exact ⟨hu, hs _⟩
    · exact ⟨hu, hv⟩
  · unfold clearS
    split
    · exact go_c _ _ _ h
    split
    · exact go_c _ _ _ h
    split
    · split <;> exact go_c _ _ _ h
    · exact go_c _ _ _ h
  · revert hd
    unfold clearS
    split
    · intro _; exact ⟨rfl, rfl⟩
    split
    · intro _; exact ⟨rfl, rfl⟩
    split
    · split
      · intro hd; exact absurd hd (by simp)
      · intro _; exact ⟨rfl, rfl⟩
    · intro hd; exact absurd hd (by simp)
  · unfold clearS
    split
    · exact ⟨rfl, rfl, rfl⟩
    split
    · exact ⟨rfl, rfl, rfl⟩
    split
    · split <;> exact ⟨rfl, rfl, rfl⟩
    · exact ⟨rfl, rfl, rfl⟩
  · unfold clearS
    split
    · exact go_len _ _ _ _
    split
    · exact go_len _ _ _ _
    split
    · split <;> exact go_len _ _ _ _
    · exact go_len _ _ _ _
end Go.Proofs.Ytmoblcfjplolgaa

namespace Go.Proofs.Ytmoblcfjplolgaa
open Go Go.RowKit Go.Shelf
set_option linter.unusedSimpArgs false
set_option linter.unusedVariables false

set_option maxHeartbeats 1000000 in
/-- A bit of a cell. -/
theorem at_any (c b : Int) (w : World) : Calls Try.prog 82 #[.int .i64 c, .int .i64 b] w fun e w' => e = .returned (.agg #[.int .i64 c, .int .u64 (maskS b)]) ∧ Below w.heap.size w w' := by
  have hX := Blk.made w 160 #[.int .i64 0, .int .u64 0]
  have hB := below_one w (.cells #[.int .i64 0, .int .u64 0] 160)
  have HX := Lib.hid hX
  have HB := Lib.hid hB
  clear hX hB
  unfold maskS
  have key : ∀ x : Int, (x < 0 ∨ 63 < x) → Calls Try.prog 82 #[.int .i64 c, .int .i64 x] w fun e w' => e = .returned (.agg #[.int .i64 c, .int .u64 0]) ∧ Below w.heap.size w w' := by
    intro x hx
    by_cases h0 : x < 0
    · go_enter Try.func82, Try.ntmps82
      go_upto_region 1 with fail
      generalize w.alloc (.cells #[.int .i64 0, .int .u64 0] 160) = W1 at *
      have c0 := HX.out.at_ 0
      have c1 := HX.out.at_ 1
      have f0 := HX.out.free 0
      have f1 := HX.out.free 1
      go_wp2
      have HY := ((HX.out.put 0 (.int .i64 c)).put 1 (.int .u64 0))
      have HF : Fr [w.heap.size] W1 ((W1.setCell ⟨w.heap.size, 0, none⟩ (.int .i64 c)).setCell ⟨w.heap.size, 1, none⟩ (.int .u64 0)) := ((Fr.refl _ _).setCell (by simp) _).setCell (by simp) _
      refine bodyPost_ret (results_cell_row (P := Try.prog) Try.results82 _ _ w.heap.size 160 _ (0, 0) _ rfl HY Try.underlying160 rfl (by kernel_rfl)) rfl ?_
      exact ⟨rfl, below_of_fr HB.out HF (fun y hy => by simp at hy; omega)⟩
    · have h1 : 64 ≤ x := by omega
      go_enter Try.func82, Try.ntmps82
      go_upto_region 1 with fail
      generalize w.alloc (.cells #[.int .i64 0, .int .u64 0] 160) = W1 at *
      have c0 := HX.out.at_ 0
      have c1 := HX.out.at_ 1
      have f0 := HX.out.free 0
      have f1 := HX.out.free 1
      go_wp2
      have HY := ((HX.out.put 0 (.int .i64 c)).put 1 (.int .u64 0))
      have HF : Fr [w.heap.size] W1 ((W1.setCell ⟨w.heap.size, 0, none⟩ (.int .i64 c)).setCell ⟨w.heap.size, 1, none⟩ (.int .u64 0)) := ((Fr.refl _ _).setCell (by simp) _).setCell (by simp) _
      refine bodyPost_ret (results_cell_row (P := Try.prog) Try.results82 _ _ w.heap.size 160 _ (0, 0) _ rfl HY Try.underlying160 rfl (by kernel_rfl)) rfl ?_
      exact ⟨rfl, below_of_fr HB.out HF (fun y hy => by simp at hy; omega)⟩
  by_cases hb : b < 0 ∨ 63 < b
  · rw [if_pos hb]
    exact key b hb
  · rw [if_neg hb]
    obtain ⟨k, rfl⟩ : ∃ k : Nat, b = (k : Int) := ⟨b.toNat, by omega⟩
    rw [Int.toNat_natCast]
    have hk : k < 64 := by omega
    have h0 : decide ((k : Int) < 0) = false := by simp
    have h1 : decide ((64 : Int) ≤ (k : Int)) = false := by simp; omega
    go_enter Try.func82, Try.ntmps82
    go_upto_region 1 with fail
    generalize w.alloc (.cells #[.int .i64 0, .int .u64 0] 160) = W1 at *
    have c0 := HX.out.at_ 0
    have c1 := HX.out.at_ 1
    have f0 := HX.out.free 0
    have f1 := HX.out.free 1
    go_wp2
    have hpw : IntKind.u64.wrap ((2 : Int) ^ k) = ((2 ^ k : Nat) : Int) := by
      have h2 : ((2 : Int) ^ k) = ((2 ^ k : Nat) : Int) := by simp
      have h3 : (2 : Nat) ^ k ≤ 2 ^ 63 := Nat.pow_le_pow_right (by decide) (by omega)
      rw [h2, IntKind.wrap_u64]
      generalize (2 : Nat) ^ k = P at *
      omega
    rw [hpw]
    generalize (2 ^ k : Nat) = P at *
    have HY := ((HX.out.put 0 (.int .i64 c)).put 1 (.int .u64 (P : Int)))
    have HF : Fr [w.heap.size] W1 ((W1.setCell ⟨w.heap.size, 0, none⟩ (.int .i64 c)).setCell ⟨w.heap.size, 1, none⟩ (.int .u64 (P : Int))) := ((Fr.refl _ _).setCell (by simp) _).setCell (by simp) _
    refine bodyPost_ret (results_cell_row (P := Try.prog) Try.results82 _ _ w.heap.size 160 _ (0, 0) _ rfl HY Try.underlying160 rfl (by kernel_rfl)) rfl ?_
    exact ⟨rfl, below_of_fr HB.out HF (fun y hy => by simp at hy; omega)⟩
end Go.Proofs.Ytmoblcfjplolgaa
