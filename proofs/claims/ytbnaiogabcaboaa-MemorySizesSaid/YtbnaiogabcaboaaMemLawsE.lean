/-
  The walk of the statement MemorySizes: it returns true.
-/
import Derived.Test.YtbnaiogabcaboaaMemLawsA
namespace Go.Proofs.Ytbnaiogabcaboaa
open Go Go.RowKit Go.Shelf

theorem neq_zero (w : World) :
    (binOp .neq 28 (.agg #[.int .i64 0, .int .i64 0, .int .u64 0, .int .u64 0]) (.agg #[.int .i64 0, .int .i64 0, .int .u64 0, .int .u64 0])).run Try.prog w = .ok (.bool false) w := by
  have h := eq_access 0 0 0 0 0 0 0 0 w
  rw [run_eql_struct] at h
  rw [run_neq_struct]
  revert h
  cases hr : (Op.equalIn 10000 28 (.agg #[.int .i64 0, .int .i64 0, .int .u64 0, .int .u64 0]) (.agg #[.int .i64 0, .int .i64 0, .int .u64 0, .int .u64 0])).run Try.prog w <;> simp [Result.andThen]

theorem new_len (n : Nat) : (St.new n).X.length = n := by simp [St.new]
theorem new_old (n : Nat) (i : Int) : (St.new n).old i = 0 := by
  unfold St.old
  split
  · have h := ‹(St.new n).has i›
    have h1 := h.1
    have h2 := h.2
    rw [new_len] at h2
    simp only [St.new]
    rw [List.getD_eq_getElem?_getD, List.getElem?_replicate]
    split <;> rfl
  · rfl

theorem new_out (n : Nat) (i : Int) (h : i = n) : (St.new n).go 1 i id = St.new n := by
  subst h
  unfold St.go
  rw [if_neg (by unfold St.has; rw [new_len]; omega)]

theorem load_out {w : World} {p g cap n : Nat} (h : Mem w p g cap (St.new n)) (i : Int) (hi : i = n) :
    Calls Try.prog 19 #[.pointer (some ⟨p, 0, none⟩), .int .i64 i] w fun e w' => e = .returned (.int .u64 0) ∧ Mem w' p g cap (St.new n) ∧ Fr [p, g] w w' := by
  refine (load_any h i).mono ?_
  rintro e w' ⟨rfl, hm, hf⟩
  rw [new_out n i hi] at hm
  rw [new_old]
  exact ⟨rfl, hm, hf⟩

set_option maxHeartbeats 1000000 in
theorem sizes_walk (c : Int) (n : Nat) (hn : sizeS c = n) (hc : (c ≤ 0 ∧ n = 0) ∨ (c = n ∧ 0 < n) ∨ (131072 < c ∧ n = 131072)) (hle : n ≤ 131072) (w : World) :
    Calls Try.prog 4 #[.int .i64 c] w fun e w' => e = .returned (.bool true) ∧ Below w.heap.size w w' := by
  have hq := neq_zero
  have HN := Lib.hid hn
  have HC := Lib.hid hc
  clear hn
  rcases hc with ⟨h1, rfl⟩ | ⟨rfl, h1⟩ | ⟨h1, rfl⟩
  all_goals
    clear HC
    go_enter Try.func4, Try.ntmps4
    go_wp2_with fail
    refine (new_any _ w).mono ?_
    rintro e w1 ⟨rfl, hm, hb⟩
    rw [HN.out] at hm
    go_wp2_with fail
    refine (awake_any w1).mono ?_
    rintro e w2 ⟨rfl, hb2⟩
    have hm2 := hm.fr (Fr.old (S := []) hb2) (by simp) (by simp)
    have hb2' : Below w.heap.size w w2 := hb.trans (hb2.mono hb.size)
    clear hb hb2 hm
    go_wp2_with fail
    refine (size_any hm2).mono ?_
    rintro e w' ⟨rfl, rfl⟩
    rw [new_len]
    go_wp2_with fail
    refine (count_any hm2).mono ?_
    rintro e w' ⟨rfl, rfl⟩
    rw [show (St.new _).c = 0 from rfl]
    go_wp2_with fail
    refine (last_any hm2).mono ?_
    rintro e w3 ⟨rfl, hb3⟩
    rw [show (St.new _).k = 0 from rfl, show (St.new _).i = 0 from rfl, show (St.new _).o = 0 from rfl, show (St.new _).v = 0 from rfl]
    have hm3 := hm2.fr (Fr.old (S := []) hb3) (by simp) (by simp)
    have hb3' : Below w.heap.size w w3 := hb2'.trans (hb3.mono hb2'.size)
    clear hb2' hb3 hm2
    go_wp2_with fail
    refine (peek_any hm3 _).mono ?_
    rintro e w' ⟨rfl, rfl⟩
    rw [new_old]
    go_wp2_with fail
    refine (peek_any hm3 _).mono ?_
    rintro e w' ⟨rfl, rfl⟩
    rw [new_old]
    go_wp2_with fail
    refine (peek_any hm3 _).mono ?_
    rintro e w' ⟨rfl, rfl⟩
    rw [new_old]
    go_wp2_with fail
    refine (load_out hm3 _ (by first | rfl | omega)).mono ?_
    rintro e w4 ⟨rfl, hm4, hf4⟩
    have hb4 : Below w.heap.size w w4 := hb3'.trans (hf4.below hb3'.size (by simp))
    clear hm3 hb3' hf4
    go_wp2_with fail
    refine (count_any hm4).mono ?_
    rintro e w' ⟨rfl, rfl⟩
    rw [show (St.new _).c = 0 from rfl]
    clear hm4
    go_wp2
    go_ret
    exact ⟨rfl, hb4⟩

theorem sizes_law (c : Int) (w : World) :
    Calls Try.prog 4 #[.int .i64 c] w fun e w' => e = .returned (.bool true) ∧ Below w.heap.size w w' := by
  refine sizes_walk c (sizeS c) rfl ?_ ?_ w
  · unfold sizeS
    split
    · omega
    · split <;> omega
  · unfold sizeS
    split
    · omega
    · split <;> omega
end Go.Proofs.Ytbnaiogabcaboaa
