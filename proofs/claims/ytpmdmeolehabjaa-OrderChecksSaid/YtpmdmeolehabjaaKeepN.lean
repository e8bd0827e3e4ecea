/-
  Contract of the keep's Number.
-/
import Derived.Test.YtpmdmeolehabjaaInts
import Derived.Test.YtpmdmeolehabjaaDraw
import Derived.Deep.QuietTactic
import Derived.BigQuiet
import Derived.Lib.Hide
namespace Go.Proofs.Ytpmdmeolehabjaa
open Go Go.RowKit

/-- A number from 0 to n - 1, behind some draws. -/
def NumR (n : Int) (w : World) (e : Ending) (w' : World) : Prop := ∃ y : Nat, (y : Int) < n ∧ e = .returned (.int .i64 y) ∧ ∃ m, w' = w.drewN m

set_option maxHeartbeats 1000000 in
theorem keepnum_any {w : World} {a : Option Addr} {L : Nat} {zs : List Int} (h : InInts w a L zs) (c k : Nat) (hk : k ≤ 1000000) (n : Int) (hn : 1 ≤ n) (hn' : n ≤ 1000000) :
    Calls Try.prog 18 #[.slice a L c, .int .i64 k, .int .i64 n] w (NumR n w) := by
  have hmax := h.2.1
  unfold maxLen at hmax
  by_cases hL : L = 0
  · subst hL
    clear h
    go_enter Try.func18, Try.ntmps18
    go_wp2
    go_ret
    exact ⟨0, by omega, rfl, 0, rfl⟩
  · have hL0 : ((L : Int) == 0) = false := by simp; omega
    have hL1 : (1 : Int) ≤ L := by omega
    have hm : k % L < L := Nat.mod_lt _ (by omega)
    obtain ⟨x, rfl, _, hc⟩ := h.2.2 (k % L) hm
    generalize zs.getD (k % L) 0 = z at hc
    clear h hL
    have hq := fun (d : Int) (u : World) => (rdraw_any d n (by omega) u).mono (fun e w' (h : e = .returned (.int .i64 (drw d n)) ∧ u = w') => (⟨h.1, h.2.symm⟩ : e = .returned (.int .i64 (drw d n)) ∧ w' = u))
    have hmi : (k : Int) % (L : Int) < (L : Int) := Int.emod_lt_of_pos _ (by omega)
    have hmi0 : 0 ≤ (k : Int) % (L : Int) := Int.emod_nonneg _ (by omega)
    have hd0 : 0 ≤ (k : Int) / (L : Int) := Int.ediv_nonneg (by omega) (by omega)
    have hd1 : (k : Int) / (L : Int) ≤ k := Int.ediv_le_self _ (by omega)
    have e0 : 0 ≤ (k : Int) / (L : Int) % 7 := Int.emod_nonneg _ (by omega)
    have e1 : (k : Int) / (L : Int) % 7 < 7 := Int.emod_lt_of_pos _ (by omega)
    go_enter Try.func18, Try.ntmps18
    go_wp2_with fail
    go_quiet ((go_at_call 27; exact Calls.quiet_of_same (hq _ _)))
    obtain ⟨g0, g1⟩ := drw_in (wrap64 (z.tdiv (1 + (k : Int) / (L : Int) % 7))) n hn
    generalize drw (wrap64 (z.tdiv (1 + (k : Int) / (L : Int) % 7))) n = y at *
    obtain ⟨y, rfl⟩ : ∃ u : Nat, y = (u : Int) := ⟨y.toNat, by omega⟩
    go_wp2
    go_ret
    exact ⟨y, g1, rfl, _, rfl⟩

end Go.Proofs.Ytpmdmeolehabjaa
