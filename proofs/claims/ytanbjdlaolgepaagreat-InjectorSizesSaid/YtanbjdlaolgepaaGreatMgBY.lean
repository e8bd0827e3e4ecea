/-
  Contract of the keep's Short with one list.
  The keep's Number of one number.
  The keep's Deque once more, with what its entries meet; the keep's Number of a lone number, told.
-/
import Derived.Test.YtanbjdlaolgepaaGreatMgAO
import Derived.LoopTactic
import Derived.Lib.Hide
import Derived.Test.YtanbjdlaolgepaaGreatMgBO
import Derived.Test.YtanbjdlaolgepaaGreatMgAA
import Derived.Test.YtanbjdlaolgepaaGreatMgAC
import Derived.Deep.QuietTactic
import Derived.BigQuiet
import Derived.Deep.CutRange
import Derived.Test.YtanbjdlaolgepaaGreatMgAI
import Derived.Deep.Cut
namespace Go.Proofs.YtanbjdlaolgepaaGreat
open Go Go.RowKit

theorem short_one {w : World} {g : Nat} {a2 : Option Addr} {n2 c2 : Nat} (h : w.cell? ⟨g, 0, none⟩ = some (.slice a2 n2 c2)) (a : Option Addr) (n c : Nat) :
    Calls Tryz.prog 4 #[.slice a n c, .slice (some ⟨g, 0, none⟩) 1 1] w fun e w' => e = .returned (.bool (decide ((n : Int) ≤ 400) && decide ((n2 : Int) ≤ 400))) ∧ w = w' := by
  obtain ⟨R, hR⟩ : ∃ R, (decide ((n : Int) ≤ 400) && decide ((n2 : Int) ≤ 400)) = R := ⟨_, rfl⟩
  rw [hR]
  have HR := Lib.hid hR
  clear hR
  go_enter Tryz.func4, Tryz.ntmps4
  go_wp2_with fail
  go_loopw [5] (fun i wr => wr = w ∧ (i = .int .i64 0 ∨ (i = .int .i64 1 ∧ (n2 : Int) ≤ 400))) (fun i _ => (2 - intOf i).toNat)
  case atStart => exact ⟨rfl, .inl rfl⟩
  case round =>
    obtain ⟨rfl, rfl | ⟨rfl, h4⟩⟩ := hrel
    · by_cases h4 : (n2 : Int) ≤ 400
      · go_wp2_with fail
        go_roundw
        case rel => exact ⟨trivial, .inr ⟨rfl, h4⟩⟩
        case measure => simp [intOf]
      · have hr : R = false := by
          rw [← HR.out, decide_eq_false h4, Bool.and_false]
        subst hr
        go_wp2
        go_ret
        exact ⟨rfl, rfl⟩
    · have hr : R = decide ((n : Int) ≤ 400) := by
        rw [← HR.out, decide_eq_true h4, Bool.and_true]
      subst hr
      go_wp2
      go_ret
      exact ⟨rfl, rfl⟩

end Go.Proofs.YtanbjdlaolgepaaGreat

namespace Go.Proofs.YtanbjdlaolgepaaGreat
open Go Go.RowKit

theorem keepnum0 {w : World} {a : Option Addr} {L : Nat} {zs : List Int} (h : InInts w a L zs) (c : Nat) (n : Int) (hn : 1 ≤ n) (hn' : n ≤ 1000000) :
    Calls Tryz.prog 6 #[.slice a L c, .int .i64 0, .int .i64 n] w (NumR n w) := keepnum_any h c 0 (by omega) n hn hn'
end Go.Proofs.YtanbjdlaolgepaaGreat

namespace Go.Proofs.YtanbjdlaolgepaaGreat
open Go Go.RowKit Go.Shelf
set_option linter.unusedSimpArgs false
set_option linter.unusedVariables false

/-- The number at place k. -/
def numk (z : Int) (k L : Nat) (n : Int) : Int := drw (wrap64 (z.tdiv (1 + (k : Int) / (L : Int) % 7))) n
set_option maxHeartbeats 1000000 in
theorem keepnum_told {w : World} {a : Option Addr} {L : Nat} {zs : List Int} (h : InInts w a L zs) (c k : Nat) (hk : k ≤ 1000000) (hL : L ≠ 0) (n : Int) (hn : 1 ≤ n) (hn' : n ≤ 1000000) :
    Calls Tryz.prog 6 #[.slice a L c, .int .i64 k, .int .i64 n] w fun e w' => e = .returned (.int .i64 (numk (zs.getD (k % L) 0) k L n)) ∧ ∃ m, w' = w.drewN m := by
  have hmax := h.2.1
  unfold maxLen at hmax
  unfold numk
  have hL0 : ((L : Int) == 0) = false := by simp; omega
  have hL1 : (1 : Int) ≤ L := by omega
  have hm : k % L < L := Nat.mod_lt _ (by omega)
  obtain ⟨x, rfl, _, hc⟩ := h.2.2 (k % L) hm
  generalize zs.getD (k % L) 0 = z at hc ⊢
  clear h hL
  have hq := fun (d : Int) (u : World) => (rdraw_any d n (by omega) u).mono (fun e w' (h : e = .returned (.int .i64 (drw d n)) ∧ u = w') => (⟨h.1, h.2.symm⟩ : e = .returned (.int .i64 (drw d n)) ∧ w' = u))
  have hmi : (k : Int) % (L : Int) < (L : Int) := Int.emod_lt_of_pos _ (by omega)
  have hmi0 : 0 ≤ (k : Int) % (L : Int) := Int.emod_nonneg _ (by omega)
  have hd0 : 0 ≤ (k : Int) / (L : Int) := Int.ediv_nonneg (by omega) (by omega)
  have hd1 : (k : Int) / (L : Int) ≤ k := Int.ediv_le_self _ (by omega)
  have e0 : 0 ≤ (k : Int) / (L : Int) % 7 := Int.emod_nonneg _ (by omega)
  have e1 : (k : Int) / (L : Int) % 7 < 7 := Int.emod_lt_of_pos _ (by omega)
  obtain ⟨y, hy⟩ : ∃ y, drw (wrap64 (z.tdiv (1 + (k : Int) / (L : Int) % 7))) n = y := ⟨_, rfl⟩
  rw [hy]
  have HY := Lib.hid hy
  clear hy
  go_enter Tryz.func6, Tryz.ntmps6
  go_wp2_with fail
  go_quiet ((go_at_call 17; exact Calls.quiet_of_same (hq _ _)))
  rw [HY.out]
  go_wp2
  go_ret
  exact ⟨rfl, _, rfl⟩
/-- The number of a lone one. -/
def numl (z n : Int) : Int := numk z 0 1 n
theorem keepnum_lone {w : World} {a : Option Addr} {z : Int} (h : InInts w a 1 [z]) (c : Nat) (n : Int) (hn : 1 ≤ n) (hn' : n ≤ 1000000) :
    Calls Tryz.prog 6 #[.slice a 1 c, .int .i64 0, .int .i64 n] w fun e w' => e = .returned (.int .i64 (numl z n)) ∧ ∃ m, w' = w.drewN m := keepnum_told h c 0 (by omega) (by omega) n hn hn'
end Go.Proofs.YtanbjdlaolgepaaGreat
