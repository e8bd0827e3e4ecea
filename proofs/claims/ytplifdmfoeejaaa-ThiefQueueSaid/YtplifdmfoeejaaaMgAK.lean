/-
  The reference's Size and Ring.
  Words for opening a law's arguments, whatever their types.
  Slices of ints that came in.
  A drawn number, and the contract of the reference's Draw.
  Contract of the keep's Number.
-/
import Derived.Test.YtplifdmfoeejaaaMgAD
import Derived.Lib.Hide
import Derived.Deep.QuietTactic
import Derived.BigQuiet
import Derived.Deep.CutRange
import Derived.Test.YtplifdmfoeejaaaRows
import Derived.WalkKit
import Derived.ProofKit
import Derived.OpenShut
import Derived.ShutString
import Derived.ChangeOld
import Derived.Deep.Slices
import Derived.Deep.Fields
import Derived.WalkSpells
import Derived.WalkLawsBesides
namespace Go.Proofs.Ytplifdmfoeejaaa
open Go Go.RowKit
set_option linter.unusedSimpArgs false

theorem size_any (b t : Int) (w : World) : Calls Try.prog 15 #[.int .u64 b, .int .u64 t] w fun e w' => e = .returned (.int .i64 (sizeI b t)) ∧ w = w' := by
  go_enter Try.func15, Try.ntmps15
  go_wp2
  go_ret
  exact ⟨rfl, rfl⟩
theorem ring_any (t b r k i : Int) (hi : 0 ≤ i) (hk : k ≤ 9223372036854775807) (w : World) : Calls Try.prog 18 #[qv t b r k, .int .u64 i] w fun e w' => e = .returned (.int .i64 (ringI r k i)) ∧ Below w.heap.size w w' := by
  have HB := Lib.hid (below_one w (.cells #[.int .i64 t, .int .i64 b, .int .i64 r, .int .i64 k] 25))
  unfold ringI
  by_cases h1 : k < 1
  · rw [if_pos h1]
    go_enter Try.func18, Try.ntmps18
    go_wp2
    go_ret
    exact ⟨rfl, HB.out⟩
  · rw [if_neg h1]
    have hk1 : 1 ≤ k := by omega
    have s0 : IntKind.u64.wrap k = k := IntWalk.u64_in _ (by omega)
    go_enter Try.func18, Try.ntmps18
    go_wp2_with fail
    go_quiet (fail)
    go_wp2
    go_ret
    exact ⟨rfl, HB.out.trans ((below_drewN _ _).mono HB.out.size)⟩
end Go.Proofs.Ytplifdmfoeejaaa

namespace Go.Proofs.Ytplifdmfoeejaaa
open Go Go.ChangeShapes Go.WideShapes Go.ChangeAt Go.RowKit

theorem ownKnobs : ownKnob Try.prog.godebug = none := by kernel_rfl
theorem laidOut : laidOutB Try.prog = true := by kernel_rfl

theorem u64_nat {a : Int} (h : (Lit.int .u64 a).wf = true) : ∃ x : Nat, a = (x : Int) ∧ x < 18446744073709551616 := by
  simp only [Lit.wf, Bool.and_eq_true, decide_eq_true_eq] at h
  have h0 : IntKind.u64.min = 0 := rfl
  have h1 : IntKind.u64.max = 18446744073709551615 := rfl
  rw [h0, h1] at h
  exact ⟨a.toNat, by omega, by omega⟩

theorem i64_in {a : Int} (h : (Lit.int .i64 a).wf = true) : -9223372036854775808 ≤ a ∧ a ≤ 9223372036854775807 := by
  simp only [Lit.wf, Bool.and_eq_true, decide_eq_true_eq] at h
  have h0 : IntKind.i64.min = -9223372036854775808 := rfl
  have h1 : IntKind.i64.max = 9223372036854775807 := rfl
  rw [h0, h1] at h
  exact h

theorem u8_in {a : Int} (h : (Lit.int .u8 a).wf = true) : 0 ≤ a ∧ a ≤ 255 := by
  simp only [Lit.wf, Bool.and_eq_true, decide_eq_true_eq] at h
  have h0 : IntKind.u8.min = 0 := rfl
  have h1 : IntKind.u8.max = 255 := rfl
  rw [h0, h1] at h
  exact h
end Go.Proofs.Ytplifdmfoeejaaa

namespace Go.Proofs.Ytplifdmfoeejaaa
open Go Go.ChangeShapes Go.WideShapes Go.ChangeAt Go.RowKit

/-- The slice (a, n) reads as the numbers zs (ints). -/
def InInts (w : World) (a : Option Addr) (n : Nat) (zs : List Int) : Prop :=
  zs.length = n ∧ n ≤ maxLen ∧ ∀ i, i < n → ∃ x : Addr, a = some x ∧ x.block < w.heap.size ∧ w.cell? (x.add i) = some (.int .i64 (zs.getD i 0))

theorem InInts.below {w w' : World} {a : Option Addr} {n : Nat} {zs : List Int} (h : InInts w a n zs) (hb : Below w.heap.size w w') : InInts w' a n zs :=
  ⟨h.1, h.2.1, fun i hi => by
    obtain ⟨x, e, hx, hc⟩ := h.2.2 i hi
    refine ⟨x, e, Nat.lt_of_lt_of_le hx hb.size, ?_⟩
    rw [hb.cell (by rw [show (x.add i).block = x.block by unfold Addr.add; split <;> rfl]; exact hx)]
    exact hc⟩

theorem InInts.cell {w : World} {x : Addr} {n i : Nat} {zs : List Int} (h : InInts w (some x) n zs) (hi : i < n) : w.cell? (x.add i) = some (.int .i64 (zs.getD i 0)) := by
  obtain ⟨y, e, _, hc⟩ := h.2.2 i hi
  cases e
  exact hc

set_option maxRecDepth 100000 in
theorem open_introw {H : Type} {enc : TypeId × Value → H} {w : World} {base b0 : Nat} {spare : Nat → Bool} {held : Bool} {r : Reach} {v : Value} {d : DataW H} {p : List MemPlace}
    (hv : Value.okWide Try.prog w r b0 23 v) (h : DataW.Trod enc Try.prog w base spare held 23 v d p) :
    ∃ (a : Option Addr) (n c : Nat) (zs : List Int), v = .slice a n c ∧ InInts w a n zs := by
  obtain ⟨a, n, c, rfl⟩ := okWide_slice Try.underlying23 hv
  obtain ⟨fuel, hf⟩ := h
  rcases open_ints Try.underlying23 Try.underlying3 (by kernel_rfl) hf with ⟨hcs, _⟩ | ⟨x, l, c', zs, hcs, _, hl, hm, hz, _, hcell, _⟩
  · simp [Value.cells] at hcs
    obtain ⟨rfl, rfl, rfl⟩ := hcs
    exact ⟨_, _, _, [], rfl, rfl, by simp, fun i hi => absurd hi (by omega)⟩
  · simp [Value.cells] at hcs
    obtain ⟨rfl, rfl, rfl⟩ := hcs
    have hnz : n ≤ zs.length := by rw [hz]; split <;> omega
    refine ⟨_, _, _, zs.take n, rfl, by simp; omega, by omega, fun i hi => ⟨x, rfl, ?_, ?_⟩⟩
    · have := World.block_lt_of_cell? w _ (hcell i (by omega))
      rwa [show (x.add i).block = x.block by unfold Addr.add; split <;> rfl] at this
    · rw [hcell i (by omega), List.getD_eq_getElem?_getD, List.getD_eq_getElem?_getD, List.getElem?_take, if_pos hi]
end Go.Proofs.Ytplifdmfoeejaaa

namespace Go.Proofs.Ytplifdmfoeejaaa
open Go Go.RowKit

/-- The number from 0 to n - 1 that differs from d by a multiple of n; 0 if n is less than 1. -/
def drw (d n : Int) : Int := if n < 1 then 0 else if d.tmod n < 0 then d.tmod n + n else d.tmod n
theorem drw_low (d n : Int) (h : n < 1) : drw d n = 0 := if_pos h
theorem drw_neg (d n : Int) (h : ¬ n < 1) (h' : d.tmod n < 0) : drw d n = d.tmod n + n := by rw [drw, if_neg h, if_pos h']
theorem drw_pos (d n : Int) (h : ¬ n < 1) (h' : ¬ d.tmod n < 0) : drw d n = d.tmod n := by rw [drw, if_neg h, if_neg h']
theorem tmod_in (d n : Int) (h : ¬ n < 1) : -n < d.tmod n ∧ d.tmod n < n := by
  have h1 := Int.tmod_lt_of_pos d (show 0 < n by omega)
  have h2 := Int.lt_tmod_of_pos d (show 0 < n by omega)
  omega
theorem drw_in (d n : Int) (h : 1 ≤ n) : 0 ≤ drw d n ∧ drw d n < n := by
  have hr := tmod_in d n (by omega)
  unfold drw
  rw [if_neg (by omega)]
  split <;> omega
theorem drw_self (d n : Int) (h : 0 ≤ d) (h' : d < n) : drw d n = d := by
  unfold drw
  rw [if_neg (by omega), Int.tmod_eq_of_lt h h', if_neg (by omega)]

theorem rdraw_any (d n : Int) (hn : n ≤ 9223372036854775807) (w : World) :
    Calls Try.prog 21 #[.int .i64 d, .int .i64 n] w fun e w' => e = .returned (.int .i64 (drw d n)) ∧ w = w' := by
  by_cases h : n < 1
  · rw [drw_low d n h]
    clear hn
    go_enter Try.func21, Try.ntmps21
    go_wp2
    go_ret
    exact ⟨rfl, rfl⟩
  · have hr := tmod_in d n h
    by_cases h' : d.tmod n < 0
    · rw [drw_neg d n h h']
      generalize hg : d.tmod n = r at *
      go_enter Try.func21, Try.ntmps21
      go_wp2
      go_ret
      exact ⟨rfl, rfl⟩
    · rw [drw_pos d n h h']
      generalize hg : d.tmod n = r at *
      have h'' : 0 ≤ r := by omega
      go_enter Try.func21, Try.ntmps21
      go_wp2
      go_ret
      exact ⟨rfl, rfl⟩
end Go.Proofs.Ytplifdmfoeejaaa

namespace Go.Proofs.Ytplifdmfoeejaaa
open Go Go.RowKit

/-- A number from 0 to n - 1, behind some draws. -/
def NumR (n : Int) (w : World) (e : Ending) (w' : World) : Prop := ∃ y : Nat, (y : Int) < n ∧ e = .returned (.int .i64 y) ∧ ∃ m, w' = w.drewN m

set_option maxHeartbeats 1000000 in
theorem keepnum_any {w : World} {a : Option Addr} {L : Nat} {zs : List Int} (h : InInts w a L zs) (c k : Nat) (hk : k ≤ 1000000) (n : Int) (hn : 1 ≤ n) (hn' : n ≤ 1000000) :
    Calls Try.prog 24 #[.slice a L c, .int .i64 k, .int .i64 n] w (NumR n w) := by
  have hmax := h.2.1
  unfold maxLen at hmax
  by_cases hL : L = 0
  · subst hL
    clear h
    go_enter Try.func24, Try.ntmps24
    go_wp2
    go_ret
    exact ⟨0, by omega, rfl, 0, rfl⟩
  · have hL0 : ((L : Int) == 0) = false := by simp; omega
    have hL1 : (1 : Int) ≤ L := by omega
    have hm : k % L < L := Nat.mod_lt _ (by omega)
    obtain ⟨x, rfl, _, hc⟩ := h.2.2 (k % L) hm
    generalize zs.getD (k % L) 0 = z at hc
    clear h hL
    have hq := fun (d : Int) (u : World) => (rdraw_any d n (by omega) u).mono (fun e w' (h : e = .returned (.int .i64 (drw d n)) ∧ u = w') => (⟨h.1, h.2.symm⟩ : e = .returned (.int .i64 (drw d n)) ∧ w' = u))
    have hmi : (k : Int) % (L : Int) < (L : Int) := Int.emod_lt_of_pos _ (by omega)
    have hmi0 : 0 ≤ (k : Int) % (L : Int) := Int.emod_nonneg _ (by omega)
    have hd0 : 0 ≤ (k : Int) / (L : Int) := Int.ediv_nonneg (by omega) (by omega)
    have hd1 : (k : Int) / (L : Int) ≤ k := Int.ediv_le_self _ (by omega)
    have e0 : 0 ≤ (k : Int) / (L : Int) % 7 := Int.emod_nonneg _ (by omega)
    have e1 : (k : Int) / (L : Int) % 7 < 7 := Int.emod_lt_of_pos _ (by omega)
    go_enter Try.func24, Try.ntmps24
    go_wp2_with fail
    go_quiet ((go_at_call 21; exact Calls.quiet_of_same (hq _ _)))
    obtain ⟨g0, g1⟩ := drw_in (wrap64 (z.tdiv (1 + (k : Int) / (L : Int) % 7))) n hn
    generalize drw (wrap64 (z.tdiv (1 + (k : Int) / (L : Int) % 7))) n = y at *
    obtain ⟨y, rfl⟩ : ∃ u : Nat, y = (u : Int) := ⟨y.toNat, by omega⟩
    go_wp2
    go_ret
    exact ⟨y, g1, rfl, _, rfl⟩

end Go.Proofs.Ytplifdmfoeejaaa
