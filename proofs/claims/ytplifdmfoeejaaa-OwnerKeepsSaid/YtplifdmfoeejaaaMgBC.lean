/-
  Peek of the reference's environment.
  The keep's Short, of one and of two lists of numbers.
-/
import Derived.Test.YtplifdmfoeejaaaEnvB
import Derived.Test.YtplifdmfoeejaaaMgAD
import Derived.LoopTactic
namespace Go.Proofs.Ytplifdmfoeejaaa
open Go Go.RowKit
set_option linter.unusedSimpArgs false

/-- A cell's contents, without an access. -/
theorem epeek_any {w : World} {p : Nat} {a : EnvA} {s : St} (h : EnvM w p a s) (i : Int) :
    Calls Try.prog 19 #[.pointer (some ⟨p, 11, none⟩), .int .i64 i] w fun e w' => e = .returned (.int .u64 (s.old i)) ∧ w = w' := by
  have h0 : w.cell? ⟨p, 11, none⟩ = some (.slice (some ⟨a.g, 0, none⟩) s.X.length a.cap) := h.blk.at_ 11
  have hs := h.small
  by_cases hi : s.has i
  · obtain ⟨j, rfl⟩ : ∃ j : Nat, i = (j : Int) := ⟨i.toNat, by have := hi.1; omega⟩
    have hj : j < s.X.length := by have := hi.2; omega
    have hc := h.row.cell hj
    simp only [St.old, if_pos hi, Int.toNat_natCast]
    generalize s.X.getD j 0 = x at *
    have H := ein_yes h hj
    go_enter Try.func19, Try.ntmps19
    go_wp2_with fail
    refine H.mono ?_
    rintro e w' ⟨rfl, rfl⟩
    go_wp2
    go_ret
    exact ⟨rfl, rfl⟩
  · have H := Lib.hid (ein_no h (St.has_no hi))
    simp only [St.old, if_neg hi]
    go_enter Try.func19, Try.ntmps19
    go_wp2_with fail
    refine H.out.mono ?_
    rintro e w' ⟨rfl, rfl⟩
    go_wp2
    go_ret
    exact ⟨rfl, rfl⟩
end Go.Proofs.Ytplifdmfoeejaaa

namespace Go.Proofs.Ytplifdmfoeejaaa
open Go Go.RowKit
set_option linter.unusedSimpArgs false

theorem short1_any {w : World} {g : Nat} {a : Option Addr} {n c : Nat} (h : Blk w g 23 #[.slice a n c]) (hn : n ≤ 9223372036854775807) :
    Calls Try.prog 17 #[.slice none 0 0, .slice (some ⟨g, 0, none⟩) 1 1] w fun e w' => e = .returned (.bool (decide ((n : Int) ≤ 400))) ∧ w = w' := by
  have c0 : w.cell? ⟨g, 0, none⟩ = some (.slice a n c) := h.at_ 0
  clear h
  by_cases hb : n ≤ 400
  · have hd : decide (400 < (n : Int)) = false := decide_eq_false (by omega)
    rw [decide_eq_true (by omega : (n : Int) ≤ 400)]
    go_enter Try.func17, Try.ntmps17
    go_wp2_with fail
    go_loopw [5] (fun i wr => ∃ j : Nat, j ≤ 1 ∧ i = .int .i64 j ∧ wr = w) (fun i _ => 1 - (intOf i).toNat)
    case atStart => exact ⟨0, by omega, rfl, rfl⟩
    case round =>
      obtain ⟨j, hj, rfl, rfl⟩ := hrel
      rcases (show j = 0 ∨ j = 1 by omega) with rfl | rfl
      · go_wp2_with fail
        go_roundw
        case rel => exact ⟨1, by omega, by go_num, by first | trivial | rfl⟩
        case measure => simp [intOf]
      · go_wp2
        go_ret
        exact ⟨rfl, rfl⟩
  · have hd : decide (400 < (n : Int)) = true := decide_eq_true (by omega)
    rw [decide_eq_false (by omega : ¬ (n : Int) ≤ 400)]
    go_enter Try.func17, Try.ntmps17
    go_wp2_with fail
    go_loopw [5] (fun i wr => i = .int .i64 0 ∧ wr = w) (fun i _ => 1 - (intOf i).toNat)
    case atStart => exact ⟨rfl, rfl⟩
    case round =>
      obtain ⟨rfl, rfl⟩ := hrel
      go_wp2
      go_ret
      exact ⟨rfl, rfl⟩
theorem short2_any {w : World} {g : Nat} {a b : Option Addr} {n c n' c' : Nat} (h : Blk w g 23 #[.slice a n c, .slice b n' c']) (hn : n ≤ 9223372036854775807) (hn' : n' ≤ 9223372036854775807) :
    Calls Try.prog 17 #[.slice none 0 0, .slice (some ⟨g, 0, none⟩) 2 2] w fun e w' => e = .returned (.bool (decide ((n : Int) ≤ 400) && decide ((n' : Int) ≤ 400))) ∧ w = w' := by
  have c0 : w.cell? ⟨g, 0, none⟩ = some (.slice a n c) := h.at_ 0
  have c1 : w.cell? ⟨g, 1, none⟩ = some (.slice b n' c') := h.at_ 1
  clear h
  by_cases hb : n ≤ 400
  case neg =>
    have hd : decide (400 < (n : Int)) = true := decide_eq_true (by omega)
    rw [decide_eq_false (by omega : ¬ (n : Int) ≤ 400), Bool.false_and]
    go_enter Try.func17, Try.ntmps17
    go_wp2_with fail
    go_loopw [5] (fun i wr => i = .int .i64 0 ∧ wr = w) (fun i _ => 1 - (intOf i).toNat)
    case atStart => exact ⟨rfl, rfl⟩
    case round =>
      obtain ⟨rfl, rfl⟩ := hrel
      go_wp2
      go_ret
      exact ⟨rfl, rfl⟩
  have hd : decide (400 < (n : Int)) = false := decide_eq_false (by omega)
  rw [decide_eq_true (by omega : (n : Int) ≤ 400), Bool.true_and]
  by_cases hb' : n' ≤ 400
  · have hd' : decide (400 < (n' : Int)) = false := decide_eq_false (by omega)
    rw [decide_eq_true (by omega : (n' : Int) ≤ 400)]
    go_enter Try.func17, Try.ntmps17
    go_wp2_with fail
    go_loopw [5] (fun i wr => ∃ j : Nat, j ≤ 2 ∧ i = .int .i64 j ∧ wr = w) (fun i _ => 2 - (intOf i).toNat)
    case atStart => exact ⟨0, by omega, rfl, rfl⟩
    case round =>
      obtain ⟨j, hj, rfl, rfl⟩ := hrel
      rcases (show j = 0 ∨ j = 1 ∨ j = 2 by omega) with rfl | rfl | rfl
      · go_wp2_with fail
        go_roundw
        case rel => exact ⟨1, by omega, by go_num, by first | trivial | rfl⟩
        case measure => simp [intOf]
      · go_wp2_with fail
        go_roundw
        case rel => exact ⟨2, by omega, by go_num, by first | trivial | rfl⟩
        case measure => simp [intOf]
      · go_wp2
        go_ret
        exact ⟨rfl, rfl⟩
  · have hd' : decide (400 < (n' : Int)) = true := decide_eq_true (by omega)
    rw [decide_eq_false (by omega : ¬ (n' : Int) ≤ 400)]
    go_enter Try.func17, Try.ntmps17
    go_wp2_with fail
    go_loopw [5] (fun i wr => ∃ j : Nat, j ≤ 1 ∧ i = .int .i64 j ∧ wr = w) (fun i _ => 1 - (intOf i).toNat)
    case atStart => exact ⟨0, by omega, rfl, rfl⟩
    case round =>
      obtain ⟨j, hj, rfl, rfl⟩ := hrel
      rcases (show j = 0 ∨ j = 1 by omega) with rfl | rfl
      · go_wp2_with fail
        go_roundw
        case rel => exact ⟨1, by omega, by go_num, by first | trivial | rfl⟩
        case measure => simp [intOf]
      · go_wp2
        go_ret
        exact ⟨rfl, rfl⟩
end Go.Proofs.Ytplifdmfoeejaaa
