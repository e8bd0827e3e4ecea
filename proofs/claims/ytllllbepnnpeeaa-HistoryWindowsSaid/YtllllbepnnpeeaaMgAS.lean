/-
  The accesses to the memory of the reference's environment, by Access. (Once written by wip/gen_env.py.)
  Slices of uint64 that a call reads. No function is named.
  workstealmatch.Bare: two equal environments with the given words.
  Package memory: Peek.
  workstealkeep.Queue.
  Words made by a literal, read as an argument.
-/
import Derived.Test.YtllllbepnnpeeaaMgAN
import Derived.Test.YtllllbepnnpeeaaMgAA
import Derived.Test.YtllllbepnnpeeaaMgAB
import Derived.Test.YtllllbepnnpeeaaMgAR
import Derived.Test.YtllllbepnnpeeaaMgAC
import Derived.Test.YtllllbepnnpeeaaMgAE
import Derived.LoopTactic
import Derived.OwnWalk
import Derived.Lib.Hide
namespace Go.Proofs.Ytllllbepnnpeeaa
open Go Go.RowKit
set_option linter.unusedSimpArgs false

theorem ein_yes {w : World} {p : Nat} {a : EnvA} {s : St} (h : EnvM w p a s) {j : Nat} (hj : j < s.X.length) :
    Calls Try.prog 62 #[.pointer (some ⟨p, 11, none⟩), .int .i64 j] w fun e w' => e = .returned (.bool true) ∧ w = w' := by
  have h0 : w.cell? ⟨p, 11, none⟩ = some (.slice (some ⟨a.g, 0, none⟩) s.X.length a.cap) := h.blk.at_ 11
  have hs := h.small
  go_enter Try.func62, Try.ntmps62
  go_wp2
  go_ret
  exact ⟨rfl, rfl⟩
theorem ein_no {w : World} {p : Nat} {a : EnvA} {s : St} (h : EnvM w p a s) {i : Int} (hi : i < 0 ∨ (s.X.length : Int) ≤ i) :
    Calls Try.prog 62 #[.pointer (some ⟨p, 11, none⟩), .int .i64 i] w fun e w' => e = .returned (.bool false) ∧ w = w' := by
  have h0 : w.cell? ⟨p, 11, none⟩ = some (.slice (some ⟨a.g, 0, none⟩) s.X.length a.cap) := h.blk.at_ 11
  have hs := h.small
  by_cases h1 : i < 0
  · go_enter Try.func62, Try.ntmps62
    go_wp2
    go_ret
    exact ⟨rfl, rfl⟩
  · have h2 : (s.X.length : Int) ≤ i := by omega
    have h3 : decide (i < (s.X.length : Int)) = false := by simpa using h2
    go_enter Try.func62, Try.ntmps62
    go_wp2
    go_ret
    exact ⟨rfl, rfl⟩
theorem eacc_no {w : World} {p : Nat} {a : EnvA} {s : St} (h : EnvM w p a s) {i : Int} (hi : i < 0 ∨ (s.X.length : Int) ≤ i) (q b d : Int) :
    Calls Try.prog 43 #[.pointer (some ⟨p, 11, none⟩), .int .i64 q, .int .i64 i, .int .u64 b, .int .u64 d] w fun e w' => e = .returned (.tuple #[.int .u64 0, .bool false]) ∧ w = w' := by
  go_enter Try.func43, Try.ntmps43
  go_wp2_with fail
  refine (ein_no h hi).mono ?_
  rintro e w' ⟨rfl, rfl⟩
  go_wp2
  go_ret2
  exact ⟨rfl, rfl⟩
theorem eacc_load {w : World} {p : Nat} {a : EnvA} {s : St} (h : EnvM w p a s) {j : Nat} (hj : j < s.X.length) (b d : Int)  :
    Calls Try.prog 43 #[.pointer (some ⟨p, 11, none⟩), .int .i64 1, .int .i64 j, .int .u64 b, .int .u64 d] w fun e w' => e = .returned (.tuple #[.int .u64 (s.X.getD j 0), .bool true]) ∧
      EnvM w' p a (s.acc 1 j (s.X.getD j 0)) ∧ Fr [p, a.g] w w' := by
  have h0 : w.cell? ⟨p, 11, none⟩ = some (.slice (some ⟨a.g, 0, none⟩) s.X.length a.cap) := h.blk.at_ 11
  have h1 : w.cell? ⟨p, 12, none⟩ = some (.int .i64 s.k) := h.blk.at_ 12
  have h2 : w.cell? ⟨p, 13, none⟩ = some (.int .i64 s.i) := h.blk.at_ 13
  have h3 : w.cell? ⟨p, 14, none⟩ = some (.int .u64 s.o) := h.blk.at_ 14
  have h4 : w.cell? ⟨p, 15, none⟩ = some (.int .u64 s.v) := h.blk.at_ 15
  have h5 : w.cell? ⟨p, 16, none⟩ = some (.int .i64 s.c) := h.blk.at_ 16
  have hc : w.cell? ⟨a.g, j, none⟩ = some (.int .u64 (s.X.getD j 0)) := h.row.cell hj
  have f1 := h.blk.free 12
  have f2 := h.blk.free 13
  have f3 := h.blk.free 14
  have f4 := h.blk.free 15
  have f5 := h.blk.free 16
  have fg := h.row.free j
  have hne := h.ne
  have hne' := hne.symm
  have hs := h.small
  have HA := Lib.hid (fun y => h.acc 1 (j := j) y)
  have HI := Lib.hid (ein_yes h hj)
  clear h
  generalize s.X.getD j 0 = x at *
  go_enter Try.func43, Try.ntmps43
  go_wp2_with fail
  refine HI.out.mono ?_
  rintro e w' ⟨rfl, rfl⟩
  go_wp2
  go_ret2
  exact ⟨rfl, HA.out _, ((((((Fr.refl _ _).setCell (by simp) _).setCell (by simp) _).setCell (by simp) _).setCell (by simp) _).setCell (by simp) _).setCell (by simp) _⟩
theorem eacc_store {w : World} {p : Nat} {a : EnvA} {s : St} (h : EnvM w p a s) {j : Nat} (hj : j < s.X.length) (b d : Int)  :
    Calls Try.prog 43 #[.pointer (some ⟨p, 11, none⟩), .int .i64 2, .int .i64 j, .int .u64 b, .int .u64 d] w fun e w' => e = .returned (.tuple #[.int .u64 (s.X.getD j 0), .bool true]) ∧
      EnvM w' p a (s.acc 2 j b) ∧ Fr [p, a.g] w w' := by
  have h0 : w.cell? ⟨p, 11, none⟩ = some (.slice (some ⟨a.g, 0, none⟩) s.X.length a.cap) := h.blk.at_ 11
  have h1 : w.cell? ⟨p, 12, none⟩ = some (.int .i64 s.k) := h.blk.at_ 12
  have h2 : w.cell? ⟨p, 13, none⟩ = some (.int .i64 s.i) := h.blk.at_ 13
  have h3 : w.cell? ⟨p, 14, none⟩ = some (.int .u64 s.o) := h.blk.at_ 14
  have h4 : w.cell? ⟨p, 15, none⟩ = some (.int .u64 s.v) := h.blk.at_ 15
  have h5 : w.cell? ⟨p, 16, none⟩ = some (.int .i64 s.c) := h.blk.at_ 16
  have hc : w.cell? ⟨a.g, j, none⟩ = some (.int .u64 (s.X.getD j 0)) := h.row.cell hj
  have f1 := h.blk.free 12
  have f2 := h.blk.free 13
  have f3 := h.blk.free 14
  have f4 := h.blk.free 15
  have f5 := h.blk.free 16
  have fg := h.row.free j
  have hne := h.ne
  have hne' := hne.symm
  have hs := h.small
  have HA := Lib.hid (fun y => h.acc 2 (j := j) y)
  have HI := Lib.hid (ein_yes h hj)
  clear h
  generalize s.X.getD j 0 = x at *
  go_enter Try.func43, Try.ntmps43
  go_wp2_with fail
  refine HI.out.mono ?_
  rintro e w' ⟨rfl, rfl⟩
  go_wp2
  go_ret2
  exact ⟨rfl, HA.out _, ((((((Fr.refl _ _).setCell (by simp) _).setCell (by simp) _).setCell (by simp) _).setCell (by simp) _).setCell (by simp) _).setCell (by simp) _⟩
theorem eacc_cas_yes {w : World} {p : Nat} {a : EnvA} {s : St} (h : EnvM w p a s) {j : Nat} (hj : j < s.X.length) (b d : Int) (hx : s.X.getD j 0 = b) :
    Calls Try.prog 43 #[.pointer (some ⟨p, 11, none⟩), .int .i64 3, .int .i64 j, .int .u64 b, .int .u64 d] w fun e w' => e = .returned (.tuple #[.int .u64 (s.X.getD j 0), .bool true]) ∧
      EnvM w' p a (s.acc 3 j d) ∧ Fr [p, a.g] w w' := by
  have h0 : w.cell? ⟨p, 11, none⟩ = some (.slice (some ⟨a.g, 0, none⟩) s.X.length a.cap) := h.blk.at_ 11
  have h1 : w.cell? ⟨p, 12, none⟩ = some (.int .i64 s.k) := h.blk.at_ 12
  have h2 : w.cell? ⟨p, 13, none⟩ = some (.int .i64 s.i) := h.blk.at_ 13
  have h3 : w.cell? ⟨p, 14, none⟩ = some (.int .u64 s.o) := h.blk.at_ 14
  have h4 : w.cell? ⟨p, 15, none⟩ = some (.int .u64 s.v) := h.blk.at_ 15
  have h5 : w.cell? ⟨p, 16, none⟩ = some (.int .i64 s.c) := h.blk.at_ 16
  have hc : w.cell? ⟨a.g, j, none⟩ = some (.int .u64 (s.X.getD j 0)) := h.row.cell hj
  have f1 := h.blk.free 12
  have f2 := h.blk.free 13
  have f3 := h.blk.free 14
  have f4 := h.blk.free 15
  have f5 := h.blk.free 16
  have fg := h.row.free j
  have hne := h.ne
  have hne' := hne.symm
  have hs := h.small
  have HA := Lib.hid (fun y => h.acc 3 (j := j) y)
  have HI := Lib.hid (ein_yes h hj)
  clear h
  generalize s.X.getD j 0 = x at *
  subst hx
  go_enter Try.func43, Try.ntmps43
  go_wp2_with fail
  refine HI.out.mono ?_
  rintro e w' ⟨rfl, rfl⟩
  go_wp2
  go_ret2
  exact ⟨rfl, HA.out _, ((((((Fr.refl _ _).setCell (by simp) _).setCell (by simp) _).setCell (by simp) _).setCell (by simp) _).setCell (by simp) _).setCell (by simp) _⟩
theorem eacc_cas_no {w : World} {p : Nat} {a : EnvA} {s : St} (h : EnvM w p a s) {j : Nat} (hj : j < s.X.length) (b d : Int) (hx : (s.X.getD j 0 == b) = false) :
    Calls Try.prog 43 #[.pointer (some ⟨p, 11, none⟩), .int .i64 3, .int .i64 j, .int .u64 b, .int .u64 d] w fun e w' => e = .returned (.tuple #[.int .u64 (s.X.getD j 0), .bool false]) ∧
      EnvM w' p a (s.acc 3 j (s.X.getD j 0)) ∧ Fr [p, a.g] w w' := by
  have h0 : w.cell? ⟨p, 11, none⟩ = some (.slice (some ⟨a.g, 0, none⟩) s.X.length a.cap) := h.blk.at_ 11
  have h1 : w.cell? ⟨p, 12, none⟩ = some (.int .i64 s.k) := h.blk.at_ 12
  have h2 : w.cell? ⟨p, 13, none⟩ = some (.int .i64 s.i) := h.blk.at_ 13
  have h3 : w.cell? ⟨p, 14, none⟩ = some (.int .u64 s.o) := h.blk.at_ 14
  have h4 : w.cell? ⟨p, 15, none⟩ = some (.int .u64 s.v) := h.blk.at_ 15
  have h5 : w.cell? ⟨p, 16, none⟩ = some (.int .i64 s.c) := h.blk.at_ 16
  have hc : w.cell? ⟨a.g, j, none⟩ = some (.int .u64 (s.X.getD j 0)) := h.row.cell hj
  have f1 := h.blk.free 12
  have f2 := h.blk.free 13
  have f3 := h.blk.free 14
  have f4 := h.blk.free 15
  have f5 := h.blk.free 16
  have fg := h.row.free j
  have hne := h.ne
  have hne' := hne.symm
  have hs := h.small
  have HA := Lib.hid (fun y => h.acc 3 (j := j) y)
  have HI := Lib.hid (ein_yes h hj)
  clear h
  generalize s.X.getD j 0 = x at *
  go_enter Try.func43, Try.ntmps43
  go_wp2_with fail
  refine HI.out.mono ?_
  rintro e w' ⟨rfl, rfl⟩
  go_wp2
  go_ret2
  exact ⟨rfl, HA.out _, ((((((Fr.refl _ _).setCell (by simp) _).setCell (by simp) _).setCell (by simp) _).setCell (by simp) _).setCell (by simp) _).setCell (by simp) _⟩
theorem eacc_or {w : World} {p : Nat} {a : EnvA} {s : St} (h : EnvM w p a s) {j : Nat} (hj : j < s.X.length) (b d : Int)  :
    Calls Try.prog 43 #[.pointer (some ⟨p, 11, none⟩), .int .i64 4, .int .i64 j, .int .u64 b, .int .u64 d] w fun e w' => e = .returned (.tuple #[.int .u64 (s.X.getD j 0), .bool true]) ∧
      EnvM w' p a (s.acc 4 j (bits .or .u64 (s.X.getD j 0) b)) ∧ Fr [p, a.g] w w' := by
  have h0 : w.cell? ⟨p, 11, none⟩ = some (.slice (some ⟨a.g, 0, none⟩) s.X.length a.cap) := h.blk.at_ 11
  have h1 : w.cell? ⟨p, 12, none⟩ = some (.int .i64 s.k) := h.blk.at_ 12
  have h2 : w.cell? ⟨p, 13, none⟩ = some (.int .i64 s.i) := h.blk.at_ 13
  have h3 : w.cell? ⟨p, 14, none⟩ = some (.int .u64 s.o) := h.blk.at_ 14
  have h4 : w.cell? ⟨p, 15, none⟩ = some (.int .u64 s.v) := h.blk.at_ 15
  have h5 : w.cell? ⟨p, 16, none⟩ = some (.int .i64 s.c) := h.blk.at_ 16
  have hc : w.cell? ⟨a.g, j, none⟩ = some (.int .u64 (s.X.getD j 0)) := h.row.cell hj
  have f1 := h.blk.free 12
  have f2 := h.blk.free 13
  have f3 := h.blk.free 14
  have f4 := h.blk.free 15
  have f5 := h.blk.free 16
  have fg := h.row.free j
  have hne := h.ne
  have hne' := hne.symm
  have hs := h.small
  have HA := Lib.hid (fun y => h.acc 4 (j := j) y)
  have HI := Lib.hid (ein_yes h hj)
  clear h
  generalize s.X.getD j 0 = x at *
  go_enter Try.func43, Try.ntmps43
  go_wp2_with fail
  refine HI.out.mono ?_
  rintro e w' ⟨rfl, rfl⟩
  go_wp2
  go_ret2
  exact ⟨rfl, HA.out _, ((((((Fr.refl _ _).setCell (by simp) _).setCell (by simp) _).setCell (by simp) _).setCell (by simp) _).setCell (by simp) _).setCell (by simp) _⟩
theorem eacc_and {w : World} {p : Nat} {a : EnvA} {s : St} (h : EnvM w p a s) {j : Nat} (hj : j < s.X.length) (b d : Int)  :
    Calls Try.prog 43 #[.pointer (some ⟨p, 11, none⟩), .int .i64 5, .int .i64 j, .int .u64 b, .int .u64 d] w fun e w' => e = .returned (.tuple #[.int .u64 (s.X.getD j 0), .bool true]) ∧
      EnvM w' p a (s.acc 5 j (bits .and .u64 (s.X.getD j 0) b)) ∧ Fr [p, a.g] w w' := by
  have h0 : w.cell? ⟨p, 11, none⟩ = some (.slice (some ⟨a.g, 0, none⟩) s.X.length a.cap) := h.blk.at_ 11
  have h1 : w.cell? ⟨p, 12, none⟩ = some (.int .i64 s.k) := h.blk.at_ 12
  have h2 : w.cell? ⟨p, 13, none⟩ = some (.int .i64 s.i) := h.blk.at_ 13
  have h3 : w.cell? ⟨p, 14, none⟩ = some (.int .u64 s.o) := h.blk.at_ 14
  have h4 : w.cell? ⟨p, 15, none⟩ = some (.int .u64 s.v) := h.blk.at_ 15
  have h5 : w.cell? ⟨p, 16, none⟩ = some (.int .i64 s.c) := h.blk.at_ 16
  have hc : w.cell? ⟨a.g, j, none⟩ = some (.int .u64 (s.X.getD j 0)) := h.row.cell hj
  have f1 := h.blk.free 12
  have f2 := h.blk.free 13
  have f3 := h.blk.free 14
  have f4 := h.blk.free 15
  have f5 := h.blk.free 16
  have fg := h.row.free j
  have hne := h.ne
  have hne' := hne.symm
  have hs := h.small
  have HA := Lib.hid (fun y => h.acc 5 (j := j) y)
  have HI := Lib.hid (ein_yes h hj)
  clear h
  generalize s.X.getD j 0 = x at *
  go_enter Try.func43, Try.ntmps43
  go_wp2_with fail
  refine HI.out.mono ?_
  rintro e w' ⟨rfl, rfl⟩
  go_wp2
  go_ret2
  exact ⟨rfl, HA.out _, ((((((Fr.refl _ _).setCell (by simp) _).setCell (by simp) _).setCell (by simp) _).setCell (by simp) _).setCell (by simp) _).setCell (by simp) _⟩
theorem eacc_add {w : World} {p : Nat} {a : EnvA} {s : St} (h : EnvM w p a s) {j : Nat} (hj : j < s.X.length) (b d : Int)  :
    Calls Try.prog 43 #[.pointer (some ⟨p, 11, none⟩), .int .i64 6, .int .i64 j, .int .u64 b, .int .u64 d] w fun e w' => e = .returned (.tuple #[.int .u64 (s.X.getD j 0), .bool true]) ∧
      EnvM w' p a (s.acc 6 j (IntKind.u64.wrap (s.X.getD j 0 + b))) ∧ Fr [p, a.g] w w' := by
  have h0 : w.cell? ⟨p, 11, none⟩ = some (.slice (some ⟨a.g, 0, none⟩) s.X.length a.cap) := h.blk.at_ 11
  have h1 : w.cell? ⟨p, 12, none⟩ = some (.int .i64 s.k) := h.blk.at_ 12
  have h2 : w.cell? ⟨p, 13, none⟩ = some (.int .i64 s.i) := h.blk.at_ 13
  have h3 : w.cell? ⟨p, 14, none⟩ = some (.int .u64 s.o) := h.blk.at_ 14
  have h4 : w.cell? ⟨p, 15, none⟩ = some (.int .u64 s.v) := h.blk.at_ 15
  have h5 : w.cell? ⟨p, 16, none⟩ = some (.int .i64 s.c) := h.blk.at_ 16
  have hc : w.cell? ⟨a.g, j, none⟩ = some (.int .u64 (s.X.getD j 0)) := h.row.cell hj
  have f1 := h.blk.free 12
  have f2 := h.blk.free 13
  have f3 := h.blk.free 14
  have f4 := h.blk.free 15
  have f5 := h.blk.free 16
  have fg := h.row.free j
  have hne := h.ne
  have hne' := hne.symm
  have hs := h.small
  have HA := Lib.hid (fun y => h.acc 6 (j := j) y)
  have HI := Lib.hid (ein_yes h hj)
  clear h
  generalize s.X.getD j 0 = x at *
  go_enter Try.func43, Try.ntmps43
  go_wp2_with fail
  refine HI.out.mono ?_
  rintro e w' ⟨rfl, rfl⟩
  go_wp2
  go_ret2
  exact ⟨rfl, HA.out _, ((((((Fr.refl _ _).setCell (by simp) _).setCell (by simp) _).setCell (by simp) _).setCell (by simp) _).setCell (by simp) _).setCell (by simp) _⟩
end Go.Proofs.Ytllllbepnnpeeaa

namespace Go.Proofs.Ytllllbepnnpeeaa
open Go Go.RowKit

/-- The slice (a, n) reads as the words X. -/
def InW (w : World) (a : Option Addr) (n : Nat) (X : List Int) : Prop :=
  X.length = n ∧ n ≤ maxLen ∧ ∀ i, i < n → ∃ x : Addr, a = some x ∧ x.block < w.heap.size ∧ w.cell? (x.add i) = some (.int .u64 (X.getD i 0))
theorem InW.below {w w' : World} {a : Option Addr} {n : Nat} {X : List Int} (h : InW w a n X) (hb : Below w.heap.size w w') : InW w' a n X :=
  ⟨h.1, h.2.1, fun i hi => by
    obtain ⟨x, e, hx, hc⟩ := h.2.2 i hi
    exact ⟨x, e, Nat.lt_of_lt_of_le hx hb.size, (hb.cell (by rw [block_add]; exact hx)).trans hc⟩⟩
theorem InW.cell {w : World} {x : Addr} {n i : Nat} {X : List Int} (h : InW w (some x) n X) (hi : i < n) : w.cell? (x.add i) = some (.int .u64 (X.getD i 0)) := by
  obtain ⟨y, e, _, hc⟩ := h.2.2 i hi
  cases e
  exact hc
theorem Row.inW {w : World} {g n cap : Nat} {X : List Int} (h : Row w g n cap X) : InW w (some ⟨g, 0, none⟩) n X :=
  ⟨h.len, Nat.le_trans h.le h.max, fun i hi => ⟨_, rfl, h.lt, by
    have e : (⟨g, 0, none⟩ : Addr).add i = ⟨g, i, none⟩ := by unfold Addr.add; split <;> simp_all
    rw [e]
    exact h.cell hi⟩⟩
end Go.Proofs.Ytllllbepnnpeeaa

namespace Go.Proofs.Ytllllbepnnpeeaa
open Go Go.RowKit Go.Shelf
set_option linter.unusedSimpArgs false

abbrev nilV : Value := .slice none 0 0
/-- What Bare gives. -/
def BareD (n : Nat) (X : List Int) (w : World) (e : Ending) (w' : World) : Prop :=
  ∃ p m k g q ag acap s, e = .returned (.tuple #[.pointer (some ⟨p, 0, none⟩), .pointer (some ⟨q, 0, none⟩), .bool true]) ∧ Duo w' w.heap.size p m k g n hd0 nilV nilV q (bareA ag acap) s s 0 0 [] [] [] [] ∧ s.X = X ∧ s.c = n ∧ Below w.heap.size w w'
/-- What its loop keeps: j words are stored. -/
def BareL (w : World) (n : Nat) (X : List Int) (p m k g q ag acap : Nat) (i : Value) (wr : World) : Prop :=
  ∃ (j : Nat) (s : St), j ≤ n ∧ i = .int .i64 j ∧ Duo wr w.heap.size p m k g n hd0 nilV nilV q (bareA ag acap) s s 0 0 [] [] [] [] ∧ s.X = X.take j ++ List.replicate (n - j) 0 ∧ s.c = j ∧ Below w.heap.size w wr

theorem bare_fill (X : List Int) (n j : Nat) (hl : X.length = n) (hj : j < n) : (X.take j ++ List.replicate (n - j) 0).set j (X.getD j 0) = X.take (j + 1) ++ List.replicate (n - (j + 1)) 0 := by
  rw [List.set_append_right _ _ (by simp; omega), List.length_take, Nat.min_eq_left (by omega), Nat.sub_self, show n - j = (n - (j + 1)) + 1 by omega, List.replicate_succ, List.set_cons_zero, List.take_add_one, List.append_assoc]
  rw [List.getD_eq_getElem?_getD, List.getElem?_eq_getElem (by omega)]
  rfl

set_option maxRecDepth 100000 in
set_option maxHeartbeats 8000000 in
theorem mbare_any {w : World} {a : Option Addr} {n : Nat} {X : List Int} (h : InW w a n X) (c : Nat) (hn : n ≤ 1000) :
    Calls Try.prog 16 #[.slice a n c] w (BareD n X w) := by
  have hsz : sizeS (n : Int) = n := by unfold sizeS; split <;> (try split) <;> omega
  have HIN := Lib.hid h
  have HR := Lib.hid (fun W : World => bare_any (n : Int) W)
  have HP := Lib.hid (fun W : World => pbare_any (n : Int) W)
  rw [hsz] at HR HP
  clear h hsz
  go_enter Try.func16, Try.ntmps16
  go_wp2_with fail
  (with_reducible refine (HR.out _).mono ?_)
  rintro e w1 ⟨q, ag, acap, rfl, hf, hb⟩
  have HF := Lib.hid hf
  have HB := Lib.hid hb
  clear hf hb HR
  go_wp2_with fail
  (with_reducible refine (HP.out _).mono ?_)
  rintro e w2 ⟨p, m, k, g, rfl, hp, hb, l1, l2, l3, l4⟩
  have hs1 := HB.out.size
  have hgl := HF.out.m.row.lt
  have hd : Duo w2 w.heap.size p m k g n hd0 nilV nilV q (bareA ag acap) (St.new n) (St.new n) 0 0 [] [] [] [] :=
    ⟨hp, World.ownsRow_nil _ _ _ _, ⟨[], rfl, World.ownsRow_nil _ _ _ _, fun i hi => by simp at hi⟩, HF.out.below hb, by intro e; have : ag < w1.heap.size := hgl; have : g = ag := e; omega, by intro x hx; simp [Value.ownBlock] at hx, by intro x hx; simp [Value.ownBlock] at hx, by omega, by omega, by omega, by omega⟩
  have D2 := Lib.hid hd
  have B2 := Lib.hid (HB.out.trans (hb.mono hs1))
  have hln : (St.new n).X.length = n := by simp [St.new]
  have HLN := Lib.hid hln
  clear hp hb l1 l2 l3 l4 hs1 hgl hd HF HB HP
  have d20 : w2.drew.cell? ⟨p, 20, none⟩ = some (.pointer (some ⟨m, 0, none⟩)) := D2.out.e.at20
  have d21 : w2.drew.cell? ⟨p, 21, none⟩ = some (.pointer (some ⟨k, 0, none⟩)) := D2.out.e.at21
  have d11 : w2.drew.cell? ⟨q, 11, none⟩ = some (.slice (some ⟨ag, 0, none⟩) n acap) := by rw [← hln]; exact D2.out.f.m.blk.at_ 11
  have KS := Lib.hid (show Calls Try.prog 42 #[.pointer (some ⟨m, 0, none⟩)] w2.drew (fun e V' => e = .returned (.int .i64 n) ∧ w2.drew = V') from hln ▸ msize_any (D2.out.drewN 1).e.mem)
  clear hln
  go_wp2_with fail
  go_region_held3 (fun w' => w'.cell? ⟨p, 20, none⟩ = some (.pointer (some ⟨m, 0, none⟩)) ∧ w'.cell? ⟨p, 21, none⟩ = some (.pointer (some ⟨k, 0, none⟩)) ∧ w'.cell? ⟨q, 11, none⟩ = some (.slice (some ⟨ag, 0, none⟩) n acap)) ((first | exact ⟨d20, d21, d11⟩ | go_keep))
    ((go_at_call 42
      refine KS.out.mono ?_
      rintro e u ⟨rfl, rfl⟩))
  have D3 := Lib.hid (D2.out.drewN 1)
  have B3 := Lib.hid (below_drew B2.out)
  clear d20 d21 d11 KS D2 B2
  go_wp2_with fail
  go_loopw [7] (fun i wr => BareL w n X p m k g q ag acap i wr) (fun i _ => n - (intOf i).toNat)
  case atStart => exact ⟨0, St.new n, by omega, rfl, D3.out, by simp [St.new], rfl, B3.out⟩
  case round =>
    clear D3 B3
    obtain ⟨j, s, hj, rfl, hd, hX, hc, hb⟩ := hrel
    have hlen : s.X.length = n := by rw [hX]; simp [HIN.out.1]; omega
    have e11 : wr.cell? ⟨q, 11, none⟩ = some (.slice (some ⟨ag, 0, none⟩) n acap) := by rw [← hlen]; exact hd.f.m.blk.at_ 11
    have D := Lib.hid hd
    have BB := Lib.hid hb
    have HX := Lib.hid (And.intro hX (And.intro hc hlen))
    clear hd hb hX hc hlen
    by_cases hlt : j < n
    · obtain ⟨x, rfl, hxl, hxc⟩ := (HIN.out.below BB.out).2.2 j hlt
      obtain ⟨b, hbv⟩ : ∃ b, X.getD j 0 = b := ⟨_, rfl⟩
      rw [hbv] at hxc
      have HBV := Lib.hid hbv
      clear hbv
      have D1 := Lib.hid (D.out.drewN 1)
      have y0 : wr.drew.cell? (x.add j) = some (.int .u64 b) := hxc
      have hxl' : (x.add j).block < wr.drew.heap.size := by rw [block_add]; exact hxl
      have HXL := Lib.hid hxl'
      clear hxl hxl'
      go_wp2_with fail
      go_region_held3 (fun w' => w'.cell? (x.add j) = some (.int .u64 b)) ((first | exact y1 | exact y0 | go_keep))
        ((go_at_call 43
          refine (eacc_store D1.out.f.m (j := j) (by rw [HX.out.2.2]; exact hlt) b 0).mono ?_
          rintro e W2 ⟨rfl, hm, hf⟩
          have y1 : W2.cell? (x.add j) = some (.int .u64 b) := by rw [← HBV.out]; exact (HIN.out.below (below_of_fr (below_drew BB.out) hf D1.out.lowR)).cell hlt
          have D2 := Lib.hid (D1.out.racc hm hf)
          have B2 := Lib.hid (below_of_fr (below_drew BB.out) hf D1.out.lowR)
          clear hm hf))
      clear hxc y0 e11
      have D3 := Lib.hid (D2.out.drewN 1)
      have z0 : W2.drew.cell? (x.add j) = some (.int .u64 b) := y1
      have z20 : W2.drew.cell? ⟨p, 20, none⟩ = some (.pointer (some ⟨m, 0, none⟩)) := D3.out.e.at20
      clear y1
      go_wp2_with fail
      go_region_held3 (fun w' => w'.cell? (x.add j) = some (.int .u64 b) ∧ w'.cell? ⟨p, 20, none⟩ = some (.pointer (some ⟨m, 0, none⟩))) ((first | exact ⟨z1, z21⟩ | exact ⟨z0, z20⟩ | go_keep))
        ((go_at_call 44
          refine (store_any D3.out.e.mem _ _).mono ?_
          rintro e W3 ⟨rfl, hm, hf⟩
          have z1 : W3.cell? (x.add j) = some (.int .u64 b) := by rw [← HBV.out]; exact (HIN.out.below (below_of_fr (below_drew B2.out) hf D1.out.lowP)).cell hlt
          have D4 := Lib.hid (D3.out.pacc hm hf)
          have z21 : W3.cell? ⟨p, 20, none⟩ = some (.pointer (some ⟨m, 0, none⟩)) := D4.out.e.at20
          have B4 := Lib.hid (below_of_fr (below_drew B2.out) hf D1.out.lowP)
          clear hm hf))
      clear z0 z20 z1 z21
      have hgo : s.go 2 j (fun _ => b) = s.acc 2 j b := by
        unfold St.go
        rw [if_pos (show s.has (j : Int) from ⟨by omega, by rw [HX.out.2.2]; omega⟩), Int.toNat_natCast]
      have HGO := Lib.hid hgo
      clear hgo
      go_wp2_with fail
      go_roundw
      case rel =>
        have hd4 := D4.out
        rw [HGO.out] at hd4
        refine ⟨j + 1, s.acc 2 j b, by omega, by go_num, hd4, ?_, ?_, B4.out⟩
        · show s.X.set j b = _
          rw [HX.out.1, ← HBV.out]
          exact bare_fill X n j HIN.out.1 hlt
        · show wrap64 (s.c + 1) = _
          rw [HX.out.2.1]
          unfold wrap64
          omega
      case measure => simp [intOf]; omega
    · obtain rfl : j = n := by omega
      have hXX : s.X = X := by
        have := HX.out.1
        rw [Nat.sub_self, List.replicate_zero, List.append_nil, List.take_of_length_le (by rw [HIN.out.1]; exact Nat.le_refl _)] at this
        exact this
      have HM := Lib.hid (msame_any D.out.twin (by simp))
      have HXX := Lib.hid hXX
      clear hXX
      go_wp2_with fail
      (with_reducible refine HM.out.mono ?_)
      rintro e w5 ⟨rfl, hb5⟩
      have D5 := Lib.hid (D.out.below hb5)
      have B5 := Lib.hid (BB.out.trans (hb5.mono BB.out.size))
      clear hb5 e11
      go_wp2
      go_ret3
      exact ⟨p, m, k, g, q, ag, acap, s, rfl, D5.out, HXX.out, HX.out.2.1, B5.out⟩
end Go.Proofs.Ytllllbepnnpeeaa

namespace Go.Proofs.Ytllllbepnnpeeaa
open Go Go.RowKit Go.Shelf

theorem peek_any {w : World} {p g cap : Nat} {s : St} (h : Mem w p g cap s) (i : Int) :
    Calls Try.prog 22 #[.pointer (some ⟨p, 0, none⟩), .int .i64 i] w fun e w' => e = .returned (.int .u64 (s.old i)) ∧ w = w' := by
  have h0 : w.cell? ⟨p, 0, none⟩ = some (.slice (some ⟨g, 0, none⟩) s.X.length cap) := h.blk.at_ 0
  have hs := h.small
  by_cases hi : s.has i
  · obtain ⟨j, rfl⟩ : ∃ j : Nat, i = (j : Int) := ⟨i.toNat, by have := hi.1; omega⟩
    have hj : j < s.X.length := by have := hi.2; omega
    have hc := h.row.cell hj
    simp only [St.old, if_pos hi, Int.toNat_natCast]
    generalize s.X.getD j 0 = x at *
    have H := has_yes h hj
    go_enter Try.func22, Try.ntmps22
    go_wp2_with fail
    refine H.mono ?_
    rintro e w' ⟨rfl, rfl⟩
    go_wp2
    go_ret
    exact ⟨rfl, rfl⟩
  · have H := Lib.hid (has_no h (St.has_no hi))
    simp only [St.old, if_neg hi]
    go_enter Try.func22, Try.ntmps22
    go_wp2_with fail
    refine H.out.mono ?_
    rintro e w' ⟨rfl, rfl⟩
    go_wp2
    go_ret
    exact ⟨rfl, rfl⟩
end Go.Proofs.Ytllllbepnnpeeaa

namespace Go.Proofs.Ytllllbepnnpeeaa
open Go Go.RowKit
set_option linter.unusedSimpArgs false

theorem queue_any (n : Int) (w : World) : Calls Try.prog 21 #[.int .i64 n] w fun e w' => e = .returned (qv 0 1 2 n) ∧ Below w.heap.size w w' := by
  have HB := Lib.hid (below_one w (.cells #[.int .i64 0, .int .i64 1, .int .i64 2, .int .i64 n] 52))
  have HX := Lib.hid (Blk.made w 52 #[.int .i64 0, .int .i64 1, .int .i64 2, .int .i64 n])
  go_enter Try.func21, Try.ntmps21
  go_wp2
  refine bodyPost_ret (results_cell_row (P := Try.prog) Try.results21 _ _ w.heap.size 52 _ (0, 0) _ rfl HX.out Try.underlying52 rfl (by kernel_rfl)) rfl ?_
  exact ⟨rfl, HB.out⟩
end Go.Proofs.Ytllllbepnnpeeaa

namespace Go.Proofs.Ytllllbepnnpeeaa
open Go Go.RowKit
set_option linter.unusedSimpArgs false
set_option linter.unusedVariables false

theorem inW_new (w : World) (ty : TypeId) (X : List Int) (h : X.length ≤ 1000) : InW (w.alloc (.cells (X.map (Value.int .u64)).toArray ty)) (some ⟨w.heap.size, 0, none⟩) X.length X := by
  refine ⟨rfl, by unfold maxLen; omega, fun i hi => ⟨⟨w.heap.size, 0, none⟩, rfl, by simp, ?_⟩⟩
  have e : (⟨w.heap.size, 0, none⟩ : Addr).add i = ⟨w.heap.size, i, none⟩ := by unfold Addr.add; split <;> simp_all
  rw [e, (Blk.made w ty _).at_ i, List.getElem?_toArray, List.getElem?_map, List.getD_eq_getElem?_getD, List.getElem?_eq_getElem hi]
  rfl
end Go.Proofs.Ytllllbepnnpeeaa
