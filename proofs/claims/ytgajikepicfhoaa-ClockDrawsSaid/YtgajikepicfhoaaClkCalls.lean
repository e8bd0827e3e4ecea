/-
  Contracts of package clock, and of the reference's Draw.
-/
import Derived.Test.YtgajikepicfhoaaBlk
import Derived.WalkSpells
import Derived.WalkLawsBesides
import Derived.Lib.Hide
import Derived.Deep.RegionHeld3
import Derived.IntWalk
namespace Go.Proofs.Ytgajikepicfhoaa
open Go Go.RowKit

/-- The number from 0 to n - 1 that differs from d by a multiple of n; 0 if n is less than 1. -/
def drw (d n : Int) : Int := if n < 1 then 0 else if d.tmod n < 0 then d.tmod n + n else d.tmod n

theorem drw_low (d n : Int) (h : n < 1) : drw d n = 0 := if_pos h
theorem drw_neg (d n : Int) (h : ¬ n < 1) (h' : d.tmod n < 0) : drw d n = d.tmod n + n := by rw [drw, if_neg h, if_pos h']
theorem drw_pos (d n : Int) (h : ¬ n < 1) (h' : ¬ d.tmod n < 0) : drw d n = d.tmod n := by rw [drw, if_neg h, if_neg h']
theorem tmod_in (d n : Int) (h : ¬ n < 1) : -n < d.tmod n ∧ d.tmod n < n := by
  have h1 := Int.tmod_lt_of_pos d (show 0 < n by omega)
  have h2 := Int.lt_tmod_of_pos d (show 0 < n by omega)
  omega

theorem rdraw_any (d n : Int) (hn : n ≤ 9223372036854775807) (w : World) :
    Calls Try.prog 12 #[.int .i64 d, .int .i64 n] w fun e w' => e = .returned (.int .i64 (drw d n)) ∧ w = w' := by
  by_cases h : n < 1
  · rw [drw_low d n h]
    clear hn
    go_enter Try.func12, Try.ntmps12
    go_wp2
    go_ret
    exact ⟨rfl, rfl⟩
  · have hr := tmod_in d n h
    by_cases h' : d.tmod n < 0
    · rw [drw_neg d n h h']
      generalize hg : d.tmod n = r at *
      go_enter Try.func12, Try.ntmps12
      go_wp2
      go_ret
      exact ⟨rfl, rfl⟩
    · rw [drw_pos d n h h']
      generalize hg : d.tmod n = r at *
      have h'' : 0 ≤ r := by omega
      go_enter Try.func12, Try.ntmps12
      go_wp2
      go_ret
      exact ⟨rfl, rfl⟩

/-- Block p is a clock with time t and draw d. -/
def Clk (w : World) (p : Nat) (t d : Int) : Prop := Blk w p 33 #[.int .i64 t, .int .i64 d]

theorem Clk.fr {S : List Nat} {w w' : World} {p : Nat} {t d : Int} (h : Clk w p t d) (f : Fr S w w') (hp : p ∉ S) : Clk w' p t d := Blk.of_same h (f.block p (Blk.lt h) hp)
theorem Clk.below {w w' : World} {p : Nat} {t d : Int} (h : Clk w p t d) (f : Below w.heap.size w w') : Clk w' p t d := h.fr (Fr.old (S := []) f) (by simp)

theorem cnew_any (w : World) :
    Calls Try.prog 6 #[] w fun e w' => e = .returned (.pointer (some ⟨w.heap.size, 0, none⟩)) ∧ Clk w' w.heap.size 0 0 ∧ Below w.heap.size w w' := by
  go_enter Try.func6, Try.ntmps6
  go_wp2
  go_ret
  exact ⟨rfl, Blk.made w _ _, (Below.refl _ _).alloc (Nat.le_refl _) _⟩

theorem tick_any {w : World} {p : Nat} {t d : Int} (h : Clk w p t d) :
    Calls Try.prog 10 #[.pointer (some ⟨p, 0, none⟩)] w fun e w' => e = .returned (.tuple #[]) ∧ Clk w' p (wrap64 (t + 1)) d ∧ Fr [p] w w' := by
  have h0 : w.cell? ⟨p, 0, none⟩ = some (.int .i64 t) := Blk.at_ h 0
  have f0 := Blk.free h 0
  go_enter Try.func10, Try.ntmps10
  go_wp2
  go_end0
  exact ⟨rfl, Blk.put h 0 _, (Fr.refl _ _).setCell (by simp) _⟩

theorem now_any {w : World} {p : Nat} {t d : Int} (h : Clk w p t d) :
    Calls Try.prog 8 #[.pointer (some ⟨p, 0, none⟩)] w fun e w' => e = .returned (.int .i64 t) ∧ w = w' := by
  have h0 : w.cell? ⟨p, 0, none⟩ = some (.int .i64 t) := Blk.at_ h 0
  go_enter Try.func8, Try.ntmps8
  go_wp2
  go_ret
  exact ⟨rfl, rfl⟩

theorem set_any {w : World} {p : Nat} {t d : Int} (h : Clk w p t d) (x : Int) :
    Calls Try.prog 11 #[.pointer (some ⟨p, 0, none⟩), .int .i64 x] w fun e w' => e = .returned (.tuple #[]) ∧ Clk w' p t x ∧ Fr [p] w w' := by
  have h1 : w.cell? ⟨p, 1, none⟩ = some (.int .i64 d) := Blk.at_ h 1
  have f1 := Blk.free h 1
  go_enter Try.func11, Try.ntmps11
  go_wp2
  go_end0
  exact ⟨rfl, Blk.put h 1 _, (Fr.refl _ _).setCell (by simp) _⟩

theorem cdraw_any {w : World} {p : Nat} {t d : Int} (h0 : Clk w p t d) (n : Int) (hn : n ≤ 9223372036854775807) :
    Calls Try.prog 9 #[.pointer (some ⟨p, 0, none⟩), .int .i64 n] w fun e w' => e = .returned (.int .i64 (drw d n)) ∧ w = w' := by
  have h1 : w.cell? ⟨p, 1, none⟩ = some (.int .i64 d) := Blk.at_ h0 1
  by_cases h : n < 1
  · rw [drw_low d n h]
    clear hn
    go_enter Try.func9, Try.ntmps9
    go_wp2
    go_ret
    exact ⟨rfl, rfl⟩
  · have hr := tmod_in d n h
    by_cases h' : d.tmod n < 0
    · rw [drw_neg d n h h']
      generalize hg : d.tmod n = r at *
      go_enter Try.func9, Try.ntmps9
      go_wp2
      go_ret
      exact ⟨rfl, rfl⟩
    · rw [drw_pos d n h h']
      generalize hg : d.tmod n = r at *
      have h'' : 0 ≤ r := by omega
      go_enter Try.func9, Try.ntmps9
      go_wp2
      go_ret
      exact ⟨rfl, rfl⟩

/-- What Copy gives: a clock of its own, with the same time and draw. -/
theorem ccopy_any {w : World} {p : Nat} {t d : Int} (h : Clk w p t d) :
    Calls Try.prog 13 #[.pointer (some ⟨p, 0, none⟩)] w fun e w' => e = .returned (.pointer (some ⟨w.heap.size, 0, none⟩)) ∧ Clk w' w.heap.size t d ∧ Below w.heap.size w w' := by
  have h0 : w.cell? ⟨p, 0, none⟩ = some (.int .i64 t) := Blk.at_ h 0
  have h1 : w.cell? ⟨p, 1, none⟩ = some (.int .i64 d) := Blk.at_ h 1
  have hl := Blk.lt h
  go_enter Try.func13, Try.ntmps13
  go_wp2
  go_ret
  exact ⟨rfl, Blk.made w _ _, (Below.refl _ _).alloc (Nat.le_refl _) _⟩
end Go.Proofs.Ytgajikepicfhoaa
