/-
  The accesses to the memory of the reference's environment, by Access. (Once written by wip/gen_env.py.)
-/
import Derived.Test.YtllllbepnnpeeaaGreatMgAE
namespace Go.Proofs.YtllllbepnnpeeaaGreat
open Go Go.RowKit
set_option linter.unusedSimpArgs false

theorem ein_yes {w : World} {p : Nat} {a : EnvA} {s : St} (h : EnvM w p a s) {j : Nat} (hj : j < s.X.length) :
    Calls Tryz.prog 61 #[.pointer (some ⟨p, 11, none⟩), .int .i64 j] w fun e w' => e = .returned (.bool true) ∧ w = w' := by
  have h0 : w.cell? ⟨p, 11, none⟩ = some (.slice (some ⟨a.g, 0, none⟩) s.X.length a.cap) := h.blk.at_ 11
  have hs := h.small
  go_enter Tryz.func61, Tryz.ntmps61
  go_wp2
  go_ret
  exact ⟨rfl, rfl⟩
theorem ein_no {w : World} {p : Nat} {a : EnvA} {s : St} (h : EnvM w p a s) {i : Int} (hi : i < 0 ∨ (s.X.length : Int) ≤ i) :
    Calls Tryz.prog 61 #[.pointer (some ⟨p, 11, none⟩), .int .i64 i] w fun e w' => e = .returned (.bool false) ∧ w = w' := by
  have h0 : w.cell? ⟨p, 11, none⟩ = some (.slice (some ⟨a.g, 0, none⟩) s.X.length a.cap) := h.blk.at_ 11
  have hs := h.small
  by_cases h1 : i < 0
  · go_enter Tryz.func61, Tryz.ntmps61
    go_wp2
    go_ret
    exact ⟨rfl, rfl⟩
  · have h2 : (s.X.length : Int) ≤ i := by omega
    have h3 : decide (i < (s.X.length : Int)) = false := by simpa using h2
    go_enter Tryz.func61, Tryz.ntmps61
    go_wp2
    go_ret
    exact ⟨rfl, rfl⟩
theorem eacc_no {w : World} {p : Nat} {a : EnvA} {s : St} (h : EnvM w p a s) {i : Int} (hi : i < 0 ∨ (s.X.length : Int) ≤ i) (q b d : Int) :
    Calls Tryz.prog 39 #[.pointer (some ⟨p, 11, none⟩), .int .i64 q, .int .i64 i, .int .u64 b, .int .u64 d] w fun e w' => e = .returned (.tuple #[.int .u64 0, .bool false]) ∧ w = w' := by
  go_enter Tryz.func39, Tryz.ntmps39
  go_wp2_with fail
  refine (ein_no h hi).mono ?_
  rintro e w' ⟨rfl, rfl⟩
  go_wp2
  go_ret2
  exact ⟨rfl, rfl⟩
theorem eacc_load {w : World} {p : Nat} {a : EnvA} {s : St} (h : EnvM w p a s) {j : Nat} (hj : j < s.X.length) (b d : Int)  :
    Calls Tryz.prog 39 #[.pointer (some ⟨p, 11, none⟩), .int .i64 1, .int .i64 j, .int .u64 b, .int .u64 d] w fun e w' => e = .returned (.tuple #[.int .u64 (s.X.getD j 0), .bool true]) ∧
      EnvM w' p a (s.acc 1 j (s.X.getD j 0)) ∧ Fr [p, a.g] w w' := by
  have h0 : w.cell? ⟨p, 11, none⟩ = some (.slice (some ⟨a.g, 0, none⟩) s.X.length a.cap) := h.blk.at_ 11
  have h1 : w.cell? ⟨p, 12, none⟩ = some (.int .i64 s.k) := h.blk.at_ 12
  have h2 : w.cell? ⟨p, 13, none⟩ = some (.int .i64 s.i) := h.blk.at_ 13
  have h3 : w.cell? ⟨p, 14, none⟩ = some (.int .u64 s.o) := h.blk.at_ 14
  have h4 : w.cell? ⟨p, 15, none⟩ = some (.int .u64 s.v) := h.blk.at_ 15
  have h5 : w.cell? ⟨p, 16, none⟩ = some (.int .i64 s.c) := h.blk.at_ 16
  have hc : w.cell? ⟨a.g, j, none⟩ = some (.int .u64 (s.X.getD j 0)) := h.row.cell hj
  have f1 := h.blk.free 12
  have f2 := h.blk.free 13
  have f3 := h.blk.free 14
  have f4 := h.blk.free 15
  have f5 := h.blk.free 16
  have fg := h.row.free j
  have hne := h.ne
  have hne' := hne.symm
  have hs := h.small
  have HA := Lib.hid (fun y => h.acc 1 (j := j) y)
  have HI := Lib.hid (ein_yes h hj)
  clear h
  generalize s.X.getD j 0 = x at *
  go_enter Tryz.func39, Tryz.ntmps39
  go_wp2_with fail
  refine HI.out.mono ?_
  rintro e w' ⟨rfl, rfl⟩
  go_wp2
  go_ret2
  exact ⟨rfl, HA.out _, ((((((Fr.refl _ _).setCell (by simp) _).setCell (by simp) _).setCell (by simp) _).setCell (by simp) _).setCell (by simp) _).setCell (by simp) _⟩
theorem eacc_store {w : World} {p : Nat} {a : EnvA} {s : St} (h : EnvM w p a s) {j : Nat} (hj : j < s.X.length) (b d : Int)  :
    Calls Tryz.prog 39 #[.pointer (some ⟨p, 11, none⟩), .int .i64 2, .int .i64 j, .int .u64 b, .int .u64 d] w fun e w' => e = .returned (.tuple #[.int .u64 (s.X.getD j 0), .bool true]) ∧
      EnvM w' p a (s.acc 2 j b) ∧ Fr [p, a.g] w w' := by
  have h0 : w.cell? ⟨p, 11, none⟩ = some (.slice (some ⟨a.g, 0, none⟩) s.X.length a.cap) := h.blk.at_ 11
  have h1 : w.cell? ⟨p, 12, none⟩ = some (.int .i64 s.k) := h.blk.at_ 12
  have h2 : w.cell? ⟨p, 13, none⟩ = some (.int .i64 s.i) := h.blk.at_ 13
  have h3 : w.cell? ⟨p, 14, none⟩ = some (.int .u64 s.o) := h.blk.at_ 14
  have h4 : w.cell? ⟨p, 15, none⟩ = some (.int .u64 s.v) := h.blk.at_ 15
  have h5 : w.cell? ⟨p, 16, none⟩ = some (.int .i64 s.c) := h.blk.at_ 16
  have hc : w.cell? ⟨a.g, j, none⟩ = some (.int .u64 (s.X.getD j 0)) := h.row.cell hj
  have f1 := h.blk.free 12
  have f2 := h.blk.free 13
  have f3 := h.blk.free 14
  have f4 := h.blk.free 15
  have f5 := h.blk.free 16
  have fg := h.row.free j
  have hne := h.ne
  have hne' := hne.symm
  have hs := h.small
  have HA := Lib.hid (fun y => h.acc 2 (j := j) y)
  have HI := Lib.hid (ein_yes h hj)
  clear h
  generalize s.X.getD j 0 = x at *
  go_enter Tryz.func39, Tryz.ntmps39
  go_wp2_with fail
  refine HI.out.mono ?_
  rintro e w' ⟨rfl, rfl⟩
  go_wp2
  go_ret2
  exact ⟨rfl, HA.out _, ((((((Fr.refl _ _).setCell (by simp) _).setCell (by simp) _).setCell (by simp) _).setCell (by simp) _).setCell (by simp) _).setCell (by simp) _⟩
theorem eacc_cas_yes {w : World} {p : Nat} {a : EnvA} {s : St} (h : EnvM w p a s) {j : Nat} (hj : j < s.X.length) (b d : Int) (hx : s.X.getD j 0 = b) :
    Calls Tryz.prog 39 #[.pointer (some ⟨p, 11, none⟩), .int .i64 3, .int .i64 j, .int .u64 b, .int .u64 d] w fun e w' => e = .returned (.tuple #[.int .u64 (s.X.getD j 0), .bool true]) ∧
      EnvM w' p a (s.acc 3 j d) ∧ Fr [p, a.g] w w' := by
  have h0 : w.cell? ⟨p, 11, none⟩ = some (.slice (some ⟨a.g, 0, none⟩) s.X.length a.cap) := h.blk.at_ 11
  have h1 : w.cell? ⟨p, 12, none⟩ = some (.int .i64 s.k) := h.blk.at_ 12
  have h2 : w.cell? ⟨p, 13, none⟩ = some (.int .i64 s.i) := h.blk.at_ 13
  have h3 : w.cell? ⟨p, 14, none⟩ = some (.int .u64 s.o) := h.blk.at_ 14
  have h4 : w.cell? ⟨p, 15, none⟩ = some (.int .u64 s.v) := h.blk.at_ 15
  have h5 : w.cell? ⟨p, 16, none⟩ = some (.int .i64 s.c) := h.blk.at_ 16
  have hc : w.cell? ⟨a.g, j, none⟩ = some (.int .u64 (s.X.getD j 0)) := h.row.cell hj
  have f1 := h.blk.free 12
  have f2 := h.blk.free 13
  have f3 := h.blk.free 14
  have f4 := h.blk.free 15
  have f5 := h.blk.free 16
  have fg := h.row.free j
  have hne := h.ne
  have hne' := hne.symm
  have hs := h.small
  have HA := Lib.hid (fun y => h.acc 3 (j := j) y)
  have HI := Lib.hid (ein_yes h hj)
  clear h
  generalize s.X.getD j 0 = x at *
  subst hx
  go_enter Tryz.func39, Tryz.ntmps39
  go_wp2_with fail
  refine HI.out.mono ?_
  rintro e w' ⟨rfl, rfl⟩
  go_wp2
  go_ret2
  exact ⟨rfl, HA.out _, ((((((Fr.refl _ _).setCell (by simp) _).setCell (by simp) _).setCell (by simp) _).setCell (by simp) _).setCell (by simp) _).setCell (by simp) _⟩
theorem eacc_cas_no {w : World} {p : Nat} {a : EnvA} {s : St} (h : EnvM w p a s) {j : Nat} (hj : j < s.X.length) (b d : Int) (hx : (s.X.getD j 0 == b) = false) :
    Calls Tryz.prog 39 #[.pointer (some ⟨p, 11, none⟩), .int .i64 3, .int .i64 j, .int .u64 b, .int .u64 d] w fun e w' => e = .returned (.tuple #[.int .u64 (s.X.getD j 0), .bool false]) ∧
      EnvM w' p a (s.acc 3 j (s.X.getD j 0)) ∧ Fr [p, a.g] w w' := by
  have h0 : w.cell? ⟨p, 11, none⟩ = some (.slice (some ⟨a.g, 0, none⟩) s.X.length a.cap) := h.blk.at_ 11
  have h1 : w.cell? ⟨p, 12, none⟩ = some (.int .i64 s.k) := h.blk.at_ 12
  have h2 : w.cell? ⟨p, 13, none⟩ = some (.int .i64 s.i) := h.blk.at_ 13
  have h3 : w.cell? ⟨p, 14, none⟩ = some (.int .u64 s.o) := h.blk.at_ 14
  have h4 : w.cell? ⟨p, 15, none⟩ = some (.int .u64 s.v) := h.blk.at_ 15
  have h5 : w.cell? ⟨p, 16, none⟩ = some (.int .i64 s.c) := h.blk.at_ 16
  have hc : w.cell? ⟨a.g, j, none⟩ = some (.int .u64 (s.X.getD j 0)) := h.row.cell hj
  have f1 := h.blk.free 12
  have f2 := h.blk.free 13
  have f3 := h.blk.free 14
  have f4 := h.blk.free 15
  have f5 := h.blk.free 16
  have fg := h.row.free j
  have hne := h.ne
  have hne' := hne.symm
  have hs := h.small
  have HA := Lib.hid (fun y => h.acc 3 (j := j) y)
  have HI := Lib.hid (ein_yes h hj)
  clear h
  generalize s.X.getD j 0 = x at *
  go_enter Tryz.func39, Tryz.ntmps39
  go_wp2_with fail
  refine HI.out.mono ?_
  rintro e w' ⟨rfl, rfl⟩
  go_wp2
  go_ret2
  exact ⟨rfl, HA.out _, ((((((Fr.refl _ _).setCell (by simp) _).setCell (by simp) _).setCell (by simp) _).setCell (by simp) _).setCell (by simp) _).setCell (by simp) _⟩
theorem eacc_or {w : World} {p : Nat} {a : EnvA} {s : St} (h : EnvM w p a s) {j : Nat} (hj : j < s.X.length) (b d : Int)  :
    Calls Tryz.prog 39 #[.pointer (some ⟨p, 11, none⟩), .int .i64 4, .int .i64 j, .int .u64 b, .int .u64 d] w fun e w' => e = .returned (.tuple #[.int .u64 (s.X.getD j 0), .bool true]) ∧
      EnvM w' p a (s.acc 4 j (bits .or .u64 (s.X.getD j 0) b)) ∧ Fr [p, a.g] w w' := by
  have h0 : w.cell? ⟨p, 11, none⟩ = some (.slice (some ⟨a.g, 0, none⟩) s.X.length a.cap) := h.blk.at_ 11
  have h1 : w.cell? ⟨p, 12, none⟩ = some (.int .i64 s.k) := h.blk.at_ 12
  have h2 : w.cell? ⟨p, 13, none⟩ = some (.int .i64 s.i) := h.blk.at_ 13
  have h3 : w.cell? ⟨p, 14, none⟩ = some (.int .u64 s.o) := h.blk.at_ 14
  have h4 : w.cell? ⟨p, 15, none⟩ = some (.int .u64 s.v) := h.blk.at_ 15
  have h5 : w.cell? ⟨p, 16, none⟩ = some (.int .i64 s.c) := h.blk.at_ 16
  have hc : w.cell? ⟨a.g, j, none⟩ = some (.int .u64 (s.X.getD j 0)) := h.row.cell hj
  have f1 := h.blk.free 12
  have f2 := h.blk.free 13
  have f3 := h.blk.free 14
  have f4 := h.blk.free 15
  have f5 := h.blk.free 16
  have fg := h.row.free j
  have hne := h.ne
  have hne' := hne.symm
  have hs := h.small
  have HA := Lib.hid (fun y => h.acc 4 (j := j) y)
  have HI := Lib.hid (ein_yes h hj)
  clear h
  generalize s.X.getD j 0 = x at *
  go_enter Tryz.func39, Tryz.ntmps39
  go_wp2_with fail
  refine HI.out.mono ?_
  rintro e w' ⟨rfl, rfl⟩
  go_wp2
  go_ret2
  exact ⟨rfl, HA.out _, ((((((Fr.refl _ _).setCell (by simp) _).setCell (by simp) _).setCell (by simp) _).setCell (by simp) _).setCell (by simp) _).setCell (by simp) _⟩
theorem eacc_and {w : World} {p : Nat} {a : EnvA} {s : St} (h : EnvM w p a s) {j : Nat} (hj : j < s.X.length) (b d : Int)  :
    Calls Tryz.prog 39 #[.pointer (some ⟨p, 11, none⟩), .int .i64 5, .int .i64 j, .int .u64 b, .int .u64 d] w fun e w' => e = .returned (.tuple #[.int .u64 (s.X.getD j 0), .bool true]) ∧
      EnvM w' p a (s.acc 5 j (bits .and .u64 (s.X.getD j 0) b)) ∧ Fr [p, a.g] w w' := by
  have h0 : w.cell? ⟨p, 11, none⟩ = some (.slice (some ⟨a.g, 0, none⟩) s.X.length a.cap) := h.blk.at_ 11
  have h1 : w.cell? ⟨p, 12, none⟩ = some (.int .i64 s.k) := h.blk.at_ 12
  have h2 : w.cell? ⟨p, 13, none⟩ = some (.int .i64 s.i) := h.blk.at_ 13
  have h3 : w.cell? ⟨p, 14, none⟩ = some (.int .u64 s.o) := h.blk.at_ 14
  have h4 : w.cell? ⟨p, 15, none⟩ = some (.int .u64 s.v) := h.blk.at_ 15
  have h5 : w.cell? ⟨p, 16, none⟩ = some (.int .i64 s.c) := h.blk.at_ 16
  have hc : w.cell? ⟨a.g, j, none⟩ = some (.int .u64 (s.X.getD j 0)) := h.row.cell hj
  have f1 := h.blk.free 12
  have f2 := h.blk.free 13
  have f3 := h.blk.free 14
  have f4 := h.blk.free 15
  have f5 := h.blk.free 16
  have fg := h.row.free j
  have hne := h.ne
  have hne' := hne.symm
  have hs := h.small
  have HA := Lib.hid (fun y => h.acc 5 (j := j) y)
  have HI := Lib.hid (ein_yes h hj)
  clear h
  generalize s.X.getD j 0 = x at *
  go_enter Tryz.func39, Tryz.ntmps39
  go_wp2_with fail
  refine HI.out.mono ?_
  rintro e w' ⟨rfl, rfl⟩
  go_wp2
  go_ret2
  exact ⟨rfl, HA.out _, ((((((Fr.refl _ _).setCell (by simp) _).setCell (by simp) _).setCell (by simp) _).setCell (by simp) _).setCell (by simp) _).setCell (by simp) _⟩
theorem eacc_add {w : World} {p : Nat} {a : EnvA} {s : St} (h : EnvM w p a s) {j : Nat} (hj : j < s.X.length) (b d : Int)  :
    Calls Tryz.prog 39 #[.pointer (some ⟨p, 11, none⟩), .int .i64 6, .int .i64 j, .int .u64 b, .int .u64 d] w fun e w' => e = .returned (.tuple #[.int .u64 (s.X.getD j 0), .bool true]) ∧
      EnvM w' p a (s.acc 6 j (IntKind.u64.wrap (s.X.getD j 0 + b))) ∧ Fr [p, a.g] w w' := by
  have h0 : w.cell? ⟨p, 11, none⟩ = some (.slice (some ⟨a.g, 0, none⟩) s.X.length a.cap) := h.blk.at_ 11
  have h1 : w.cell? ⟨p, 12, none⟩ = some (.int .i64 s.k) := h.blk.at_ 12
  have h2 : w.cell? ⟨p, 13, none⟩ = some (.int .i64 s.i) := h.blk.at_ 13
  have h3 : w.cell? ⟨p, 14, none⟩ = some (.int .u64 s.o) := h.blk.at_ 14
  have h4 : w.cell? ⟨p, 15, none⟩ = some (.int .u64 s.v) := h.blk.at_ 15
  have h5 : w.cell? ⟨p, 16, none⟩ = some (.int .i64 s.c) := h.blk.at_ 16
  have hc : w.cell? ⟨a.g, j, none⟩ = some (.int .u64 (s.X.getD j 0)) := h.row.cell hj
  have f1 := h.blk.free 12
  have f2 := h.blk.free 13
  have f3 := h.blk.free 14
  have f4 := h.blk.free 15
  have f5 := h.blk.free 16
  have fg := h.row.free j
  have hne := h.ne
  have hne' := hne.symm
  have hs := h.small
  have HA := Lib.hid (fun y => h.acc 6 (j := j) y)
  have HI := Lib.hid (ein_yes h hj)
  clear h
  generalize s.X.getD j 0 = x at *
  go_enter Tryz.func39, Tryz.ntmps39
  go_wp2_with fail
  refine HI.out.mono ?_
  rintro e w' ⟨rfl, rfl⟩
  go_wp2
  go_ret2
  exact ⟨rfl, HA.out _, ((((((Fr.refl _ _).setCell (by simp) _).setCell (by simp) _).setCell (by simp) _).setCell (by simp) _).setCell (by simp) _).setCell (by simp) _⟩
end Go.Proofs.YtllllbepnnpeeaaGreat
