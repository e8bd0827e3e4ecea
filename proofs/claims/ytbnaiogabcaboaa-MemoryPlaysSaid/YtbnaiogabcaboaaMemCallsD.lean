/-
  Contracts of the reference's New, Draw and Same, and of the laws' same.
-/
import Derived.Test.YtbnaiogabcaboaaMemCallsC
import Derived.Laws.StructEq
import Derived.BigQuiet
import Derived.Deep.QuietTactic
import Derived.IntWalk
namespace Go.Proofs.Ytbnaiogabcaboaa
open Go Go.RowKit Go.Shelf

/-- What the reference's New gives: a memory by value. -/
def RNew (w : World) (n : Nat) (e : Ending) (w' : World) : Prop :=
  e = .returned (.agg #[.slice (some ⟨w.heap.size + 1, 0, none⟩) n n, .int .i64 0, .int .i64 0, .int .u64 0, .int .u64 0, .int .i64 0]) ∧ Row w' (w.heap.size + 1) n n (List.replicate n 0) ∧ Below w.heap.size w w'

theorem rnew_end (w : World) (n : Nat) (hn : n ≤ 131072) (o : Obj) :
    RNew w n (.returned (.agg #[.slice (some ⟨w.heap.size + 1, 0, none⟩) n n, .int .i64 0, .int .i64 0, .int .u64 0, .int .u64 0, .int .i64 0])) ((w.alloc o).alloc (.cells (madeCells #[.int .u64 0] n) 26)) := by
  refine ⟨rfl, ?_, ((Below.refl _ _).alloc (Nat.le_refl _) _).alloc (by simp) _⟩
  have := made_row (w.alloc o) n hn
  simpa using this

theorem rnew_any (c : Int) (w : World) : Calls Try.prog 10 #[.int .i64 c] w (RNew w (sizeS c)) := by
  have hmk := fun (n : Nat) (hn : n ≤ 131072) (W : World) => run_make_row' (P := Try.prog) 25 26 (.int .u64 0) 8 Try.underlying25 info_u64 rfl .i64 .i64 n (by omega) (by omega) W
  have HE := Lib.hid (rnew_end w)
  by_cases h1 : c ≤ 0
  · have e : sizeS c = 0 := by unfold sizeS; rw [if_pos (by omega)]
    rw [e]
    clear e
    have hk := hmk 0 (by omega)
    rw [show ((0 : Nat) : Int) = 0 from rfl] at hk
    clear hmk
    go_enter Try.func10, Try.ntmps10
    go_wp2
    exact bodyPost_ret (v := .agg #[.slice (some ⟨w.heap.size + 1, 0, none⟩) 0 0, .int .i64 0, .int .i64 0, .int .u64 0, .int .u64 0, .int .i64 0]) (by simp [results, Try.results10, go_sem]) rfl (HE.out 0 (by omega) _)
  · by_cases h2 : c ≤ 131072
    · obtain ⟨n, rfl⟩ : ∃ n : Nat, c = (n : Int) := ⟨c.toNat, by omega⟩
      have e : sizeS n = n := by unfold sizeS; rw [if_neg h1, if_pos h2]; omega
      rw [e]
      clear e
      have hk := hmk n (by omega)
      clear hmk
      go_enter Try.func10, Try.ntmps10
      go_wp2
      exact bodyPost_ret (v := .agg #[.slice (some ⟨w.heap.size + 1, 0, none⟩) n n, .int .i64 0, .int .i64 0, .int .u64 0, .int .u64 0, .int .i64 0]) (by simp [results, Try.results10, go_sem]) rfl (HE.out n (by omega) _)
    · have e : sizeS c = 131072 := by unfold sizeS; rw [if_neg h1, if_neg h2]
      rw [e]
      clear e
      have hk := hmk 131072 (by omega)
      rw [show ((131072 : Nat) : Int) = 131072 from rfl] at hk
      clear hmk
      go_enter Try.func10, Try.ntmps10
      go_wp2
      exact bodyPost_ret (v := .agg #[.slice (some ⟨w.heap.size + 1, 0, none⟩) 131072 131072, .int .i64 0, .int .i64 0, .int .u64 0, .int .u64 0, .int .i64 0]) (by simp [results, Try.results10, go_sem]) rfl (HE.out 131072 (by omega) _)

/-- Draw gives a number from 0 to n - 1 (0 if there is none). -/
theorem draw_any (x n : Int) (hn : 1 ≤ n) (hm : n ≤ 1000000) (w : World) :
    Calls Try.prog 12 #[.int .i64 x, .int .i64 n] w fun e w' => e = .returned (.int .i64 (if x.tmod n < 0 then x.tmod n + n else x.tmod n)) ∧ w = w' := by
  have h0 : -n < x.tmod n ∧ x.tmod n < n := by
    have h1 := Int.tmod_lt_of_pos x (show 0 < n by omega)
    have h2 := Int.lt_tmod_of_pos x (show 0 < n by omega)
    omega
  generalize hr : x.tmod n = r at *
  by_cases h : r < 0
  · rw [if_pos h]
    go_enter Try.func12, Try.ntmps12
    go_wp2
    go_ret
    exact ⟨rfl, rfl⟩
  · rw [if_neg h]
    have h' : 0 ≤ r := by omega
    go_enter Try.func12, Try.ntmps12
    go_wp2
    go_ret
    exact ⟨rfl, rfl⟩

/-- A number from 0 to n - 1. -/
def Drawn (n : Int) (w : World) (e : Ending) (w' : World) : Prop := ∃ y : Int, 0 ≤ y ∧ y < n ∧ e = .returned (.int .i64 y) ∧ w = w'
theorem draw_some (x n : Int) (hn : 1 ≤ n) (hm : n ≤ 1000000) (w : World) : Calls Try.prog 12 #[.int .i64 x, .int .i64 n] w (Drawn n w) := by
  refine (draw_any x n hn hm w).mono ?_
  rintro e w' ⟨rfl, rfl⟩
  have h1 := Int.tmod_lt_of_pos x (show 0 < n by omega)
  have h2 := Int.lt_tmod_of_pos x (show 0 < n by omega)
  refine ⟨_, ?_, ?_, rfl, rfl⟩
  · split <;> omega
  · split <;> omega
end Go.Proofs.Ytbnaiogabcaboaa
