/-
  Contracts of the reference's memory (workstealref02): New, In, Peek, Access, Draw, Same.
-/
import Derived.Test.YtbnaiogabcaboaaMemCallsB
namespace Go.Proofs.Ytbnaiogabcaboaa
open Go Go.RowKit Go.Shelf

theorem rin_yes {w : World} {p g cap : Nat} {s : St} (h : Ref w p g cap s) {j : Nat} (hj : j < s.X.length) :
    Calls Try.prog 39 #[.pointer (some ⟨p, 0, none⟩), .int .i64 j] w fun e w' => e = .returned (.bool true) ∧ w = w' := by
  have h0 : w.cell? ⟨p, 0, none⟩ = some (.slice (some ⟨g, 0, none⟩) s.X.length cap) := h.blk.at_ 0
  have hs := h.small
  go_enter Try.func39, Try.ntmps39
  go_wp2
  go_ret
  exact ⟨rfl, rfl⟩

theorem rin_no {w : World} {p g cap : Nat} {s : St} (h : Ref w p g cap s) {i : Int} (hi : i < 0 ∨ (s.X.length : Int) ≤ i) :
    Calls Try.prog 39 #[.pointer (some ⟨p, 0, none⟩), .int .i64 i] w fun e w' => e = .returned (.bool false) ∧ w = w' := by
  have h0 : w.cell? ⟨p, 0, none⟩ = some (.slice (some ⟨g, 0, none⟩) s.X.length cap) := h.blk.at_ 0
  have hs := h.small
  by_cases h1 : i < 0
  · go_enter Try.func39, Try.ntmps39
    go_wp2
    go_ret
    exact ⟨rfl, rfl⟩
  · have h2 : (s.X.length : Int) ≤ i := by omega
    have h3 : decide (i < (s.X.length : Int)) = false := by simpa using h2
    go_enter Try.func39, Try.ntmps39
    go_wp2
    go_ret
    exact ⟨rfl, rfl⟩

theorem rpeek_any {w : World} {p g cap : Nat} {s : St} (h : Ref w p g cap s) (i : Int) :
    Calls Try.prog 28 #[.pointer (some ⟨p, 0, none⟩), .int .i64 i] w fun e w' => e = .returned (.int .u64 (s.old i)) ∧ w = w' := by
  have h0 : w.cell? ⟨p, 0, none⟩ = some (.slice (some ⟨g, 0, none⟩) s.X.length cap) := h.blk.at_ 0
  have hs := h.small
  by_cases hi : s.has i
  · obtain ⟨j, rfl⟩ : ∃ j : Nat, i = (j : Int) := ⟨i.toNat, by have := hi.1; omega⟩
    have hj : j < s.X.length := by have := hi.2; omega
    have hc := h.row.cell hj
    simp only [St.old, if_pos hi, Int.toNat_natCast]
    generalize s.X.getD j 0 = x at *
    have H := rin_yes h hj
    go_enter Try.func28, Try.ntmps28
    go_wp2_with fail
    refine H.mono ?_
    rintro e w' ⟨rfl, rfl⟩
    go_wp2
    go_ret
    exact ⟨rfl, rfl⟩
  · have H := Lib.hid (rin_no h (St.has_no hi))
    simp only [St.old, if_neg hi]
    go_enter Try.func28, Try.ntmps28
    go_wp2_with fail
    refine H.out.mono ?_
    rintro e w' ⟨rfl, rfl⟩
    go_wp2
    go_ret
    exact ⟨rfl, rfl⟩

/-- What an access of kind q with the arguments a, b makes of x. -/
def accF (q a b : Int) (x : Int) : Int :=
  if q = 2 then a else if q = 3 then (if x = a then b else x) else if q = 4 then bits .or .u64 x a else if q = 5 then bits .and .u64 x a else if q = 6 then IntKind.u64.wrap (x + a) else x
/-- Whether the reference says that it succeeded. -/
def accB (q a : Int) (x : Int) : Bool := if q = 3 then x == a else true

theorem racc_no {w : World} {p g cap : Nat} {s : St} (h : Ref w p g cap s) {i : Int} (hi : i < 0 ∨ (s.X.length : Int) ≤ i) (q a b : Int) :
    Calls Try.prog 27 #[.pointer (some ⟨p, 0, none⟩), .int .i64 q, .int .i64 i, .int .u64 a, .int .u64 b] w fun e w' => e = .returned (.tuple #[.int .u64 0, .bool false]) ∧ w = w' := by
  go_enter Try.func27, Try.ntmps27
  go_wp2_with fail
  refine (rin_no h hi).mono ?_
  rintro e w' ⟨rfl, rfl⟩
  go_wp2
  go_ret2
  exact ⟨rfl, rfl⟩

theorem racc_load {w : World} {p g cap : Nat} {s : St} (h : Ref w p g cap s) {j : Nat} (hj : j < s.X.length) (a b : Int) :
    Calls Try.prog 27 #[.pointer (some ⟨p, 0, none⟩), .int .i64 1, .int .i64 j, .int .u64 a, .int .u64 b] w fun e w' => e = .returned (.tuple #[.int .u64 (s.X.getD j 0), .bool true]) ∧
      Ref w' p g cap (s.acc 1 j (s.X.getD j 0)) ∧ Fr [p, g] w w' := by
  have h0 : w.cell? ⟨p, 0, none⟩ = some (.slice (some ⟨g, 0, none⟩) s.X.length cap) := h.blk.at_ 0
  have h1 : w.cell? ⟨p, 1, none⟩ = some (.int .i64 s.k) := h.blk.at_ 1
  have h2 : w.cell? ⟨p, 2, none⟩ = some (.int .i64 s.i) := h.blk.at_ 2
  have h3 : w.cell? ⟨p, 3, none⟩ = some (.int .u64 s.o) := h.blk.at_ 3
  have h4 : w.cell? ⟨p, 4, none⟩ = some (.int .u64 s.v) := h.blk.at_ 4
  have h5 : w.cell? ⟨p, 5, none⟩ = some (.int .i64 s.c) := h.blk.at_ 5
  have hc : w.cell? ⟨g, j, none⟩ = some (.int .u64 (s.X.getD j 0)) := h.row.cell hj
  have f0 := h.blk.free 0
  have f1 := h.blk.free 1
  have f2 := h.blk.free 2
  have f3 := h.blk.free 3
  have f4 := h.blk.free 4
  have f5 := h.blk.free 5
  have fg := h.row.free j
  have hne := h.ne
  have hne' := hne.symm
  have hs := h.small
  have HA := Lib.hid (fun y => h.acc 1 (j := j) y)
  have HI := Lib.hid (rin_yes h hj)
  clear h
  generalize s.X.getD j 0 = x at *
  go_enter Try.func27, Try.ntmps27
  go_wp2_with fail
  refine HI.out.mono ?_
  rintro e w' ⟨rfl, rfl⟩
  go_wp2
  go_ret2
  exact ⟨rfl, HA.out _, ((((((Fr.refl _ _).setCell (by simp) _).setCell (by simp) _).setCell (by simp) _).setCell (by simp) _).setCell (by simp) _).setCell (by simp) _⟩

theorem racc_store {w : World} {p g cap : Nat} {s : St} (h : Ref w p g cap s) {j : Nat} (hj : j < s.X.length) (a b : Int) :
    Calls Try.prog 27 #[.pointer (some ⟨p, 0, none⟩), .int .i64 2, .int .i64 j, .int .u64 a, .int .u64 b] w fun e w' => e = .returned (.tuple #[.int .u64 (s.X.getD j 0), .bool true]) ∧
      Ref w' p g cap (s.acc 2 j a) ∧ Fr [p, g] w w' := by
  have h0 : w.cell? ⟨p, 0, none⟩ = some (.slice (some ⟨g, 0, none⟩) s.X.length cap) := h.blk.at_ 0
  have h1 : w.cell? ⟨p, 1, none⟩ = some (.int .i64 s.k) := h.blk.at_ 1
  have h2 : w.cell? ⟨p, 2, none⟩ = some (.int .i64 s.i) := h.blk.at_ 2
  have h3 : w.cell? ⟨p, 3, none⟩ = some (.int .u64 s.o) := h.blk.at_ 3
  have h4 : w.cell? ⟨p, 4, none⟩ = some (.int .u64 s.v) := h.blk.at_ 4
  have h5 : w.cell? ⟨p, 5, none⟩ = some (.int .i64 s.c) := h.blk.at_ 5
  have hc : w.cell? ⟨g, j, none⟩ = some (.int .u64 (s.X.getD j 0)) := h.row.cell hj
  have f0 := h.blk.free 0
  have f1 := h.blk.free 1
  have f2 := h.blk.free 2
  have f3 := h.blk.free 3
  have f4 := h.blk.free 4
  have f5 := h.blk.free 5
  have fg := h.row.free j
  have hne := h.ne
  have hne' := hne.symm
  have hs := h.small
  have HA := Lib.hid (fun y => h.acc 2 (j := j) y)
  have HI := Lib.hid (rin_yes h hj)
  clear h
  generalize s.X.getD j 0 = x at *
  go_enter Try.func27, Try.ntmps27
  go_wp2_with fail
  refine HI.out.mono ?_
  rintro e w' ⟨rfl, rfl⟩
  go_wp2
  go_ret2
  exact ⟨rfl, HA.out _, ((((((Fr.refl _ _).setCell (by simp) _).setCell (by simp) _).setCell (by simp) _).setCell (by simp) _).setCell (by simp) _).setCell (by simp) _⟩

theorem racc_cas_yes {w : World} {p g cap : Nat} {s : St} (h : Ref w p g cap s) {j : Nat} (hj : j < s.X.length) (a b : Int) (hx : s.X.getD j 0 = a) :
    Calls Try.prog 27 #[.pointer (some ⟨p, 0, none⟩), .int .i64 3, .int .i64 j, .int .u64 a, .int .u64 b] w fun e w' => e = .returned (.tuple #[.int .u64 (s.X.getD j 0), .bool true]) ∧
      Ref w' p g cap (s.acc 3 j b) ∧ Fr [p, g] w w' := by
  have h0 : w.cell? ⟨p, 0, none⟩ = some (.slice (some ⟨g, 0, none⟩) s.X.length cap) := h.blk.at_ 0
  have h1 : w.cell? ⟨p, 1, none⟩ = some (.int .i64 s.k) := h.blk.at_ 1
  have h2 : w.cell? ⟨p, 2, none⟩ = some (.int .i64 s.i) := h.blk.at_ 2
  have h3 : w.cell? ⟨p, 3, none⟩ = some (.int .u64 s.o) := h.blk.at_ 3
  have h4 : w.cell? ⟨p, 4, none⟩ = some (.int .u64 s.v) := h.blk.at_ 4
  have h5 : w.cell? ⟨p, 5, none⟩ = some (.int .i64 s.c) := h.blk.at_ 5
  have hc : w.cell? ⟨g, j, none⟩ = some (.int .u64 (s.X.getD j 0)) := h.row.cell hj
  have f0 := h.blk.free 0
  have f1 := h.blk.free 1
  have f2 := h.blk.free 2
  have f3 := h.blk.free 3
  have f4 := h.blk.free 4
  have f5 := h.blk.free 5
  have fg := h.row.free j
  have hne := h.ne
  have hne' := hne.symm
  have hs := h.small
  have HA := Lib.hid (fun y => h.acc 3 (j := j) y)
  have HI := Lib.hid (rin_yes h hj)
  clear h
  generalize s.X.getD j 0 = x at *
  subst hx
  go_enter Try.func27, Try.ntmps27
  go_wp2_with fail
  refine HI.out.mono ?_
  rintro e w' ⟨rfl, rfl⟩
  go_wp2
  go_ret2
  exact ⟨rfl, HA.out _, ((((((Fr.refl _ _).setCell (by simp) _).setCell (by simp) _).setCell (by simp) _).setCell (by simp) _).setCell (by simp) _).setCell (by simp) _⟩

theorem racc_cas_no {w : World} {p g cap : Nat} {s : St} (h : Ref w p g cap s) {j : Nat} (hj : j < s.X.length) (a b : Int) (hx : (s.X.getD j 0 == a) = false) :
    Calls Try.prog 27 #[.pointer (some ⟨p, 0, none⟩), .int .i64 3, .int .i64 j, .int .u64 a, .int .u64 b] w fun e w' => e = .returned (.tuple #[.int .u64 (s.X.getD j 0), .bool false]) ∧
      Ref w' p g cap (s.acc 3 j (s.X.getD j 0)) ∧ Fr [p, g] w w' := by
  have h0 : w.cell? ⟨p, 0, none⟩ = some (.slice (some ⟨g, 0, none⟩) s.X.length cap) := h.blk.at_ 0
  have h1 : w.cell? ⟨p, 1, none⟩ = some (.int .i64 s.k) := h.blk.at_ 1
  have h2 : w.cell? ⟨p, 2, none⟩ = some (.int .i64 s.i) := h.blk.at_ 2
  have h3 : w.cell? ⟨p, 3, none⟩ = some (.int .u64 s.o) := h.blk.at_ 3
  have h4 : w.cell? ⟨p, 4, none⟩ = some (.int .u64 s.v) := h.blk.at_ 4
  have h5 : w.cell? ⟨p, 5, none⟩ = some (.int .i64 s.c) := h.blk.at_ 5
  have hc : w.cell? ⟨g, j, none⟩ = some (.int .u64 (s.X.getD j 0)) := h.row.cell hj
  have f0 := h.blk.free 0
  have f1 := h.blk.free 1
  have f2 := h.blk.free 2
  have f3 := h.blk.free 3
  have f4 := h.blk.free 4
  have f5 := h.blk.free 5
  have fg := h.row.free j
  have hne := h.ne
  have hne' := hne.symm
  have hs := h.small
  have HA := Lib.hid (fun y => h.acc 3 (j := j) y)
  have HI := Lib.hid (rin_yes h hj)
  clear h
  generalize s.X.getD j 0 = x at *
  go_enter Try.func27, Try.ntmps27
  go_wp2_with fail
  refine HI.out.mono ?_
  rintro e w' ⟨rfl, rfl⟩
  go_wp2
  go_ret2
  exact ⟨rfl, HA.out _, ((((((Fr.refl _ _).setCell (by simp) _).setCell (by simp) _).setCell (by simp) _).setCell (by simp) _).setCell (by simp) _).setCell (by simp) _⟩

theorem racc_or {w : World} {p g cap : Nat} {s : St} (h : Ref w p g cap s) {j : Nat} (hj : j < s.X.length) (a b : Int) :
    Calls Try.prog 27 #[.pointer (some ⟨p, 0, none⟩), .int .i64 4, .int .i64 j, .int .u64 a, .int .u64 b] w fun e w' => e = .returned (.tuple #[.int .u64 (s.X.getD j 0), .bool true]) ∧
      Ref w' p g cap (s.acc 4 j (bits .or .u64 (s.X.getD j 0) a)) ∧ Fr [p, g] w w' := by
  have h0 : w.cell? ⟨p, 0, none⟩ = some (.slice (some ⟨g, 0, none⟩) s.X.length cap) := h.blk.at_ 0
  have h1 : w.cell? ⟨p, 1, none⟩ = some (.int .i64 s.k) := h.blk.at_ 1
  have h2 : w.cell? ⟨p, 2, none⟩ = some (.int .i64 s.i) := h.blk.at_ 2
  have h3 : w.cell? ⟨p, 3, none⟩ = some (.int .u64 s.o) := h.blk.at_ 3
  have h4 : w.cell? ⟨p, 4, none⟩ = some (.int .u64 s.v) := h.blk.at_ 4
  have h5 : w.cell? ⟨p, 5, none⟩ = some (.int .i64 s.c) := h.blk.at_ 5
  have hc : w.cell? ⟨g, j, none⟩ = some (.int .u64 (s.X.getD j 0)) := h.row.cell hj
  have f0 := h.blk.free 0
  have f1 := h.blk.free 1
  have f2 := h.blk.free 2
  have f3 := h.blk.free 3
  have f4 := h.blk.free 4
  have f5 := h.blk.free 5
  have fg := h.row.free j
  have hne := h.ne
  have hne' := hne.symm
  have hs := h.small
  have HA := Lib.hid (fun y => h.acc 4 (j := j) y)
  have HI := Lib.hid (rin_yes h hj)
  clear h
  generalize s.X.getD j 0 = x at *
  go_enter Try.func27, Try.ntmps27
  go_wp2_with fail
  refine HI.out.mono ?_
  rintro e w' ⟨rfl, rfl⟩
  go_wp2
  go_ret2
  exact ⟨rfl, HA.out _, ((((((Fr.refl _ _).setCell (by simp) _).setCell (by simp) _).setCell (by simp) _).setCell (by simp) _).setCell (by simp) _).setCell (by simp) _⟩

theorem racc_and {w : World} {p g cap : Nat} {s : St} (h : Ref w p g cap s) {j : Nat} (hj : j < s.X.length) (a b : Int) :
    Calls Try.prog 27 #[.pointer (some ⟨p, 0, none⟩), .int .i64 5, .int .i64 j, .int .u64 a, .int .u64 b] w fun e w' => e = .returned (.tuple #[.int .u64 (s.X.getD j 0), .bool true]) ∧
      Ref w' p g cap (s.acc 5 j (bits .and .u64 (s.X.getD j 0) a)) ∧ Fr [p, g] w w' := by
  have h0 : w.cell? ⟨p, 0, none⟩ = some (.slice (some ⟨g, 0, none⟩) s.X.length cap) := h.blk.at_ 0
  have h1 : w.cell? ⟨p, 1, none⟩ = some (.int .i64 s.k) := h.blk.at_ 1
  have h2 : w.cell? ⟨p, 2, none⟩ = some (.int .i64 s.i) := h.blk.at_ 2
  have h3 : w.cell? ⟨p, 3, none⟩ = some (.int .u64 s.o) := h.blk.at_ 3
  have h4 : w.cell? ⟨p, 4, none⟩ = some (.int .u64 s.v) := h.blk.at_ 4
  have h5 : w.cell? ⟨p, 5, none⟩ = some (.int .i64 s.c) := h.blk.at_ 5
  have hc : w.cell? ⟨g, j, none⟩ = some (.int .u64 (s.X.getD j 0)) := h.row.cell hj
  have f0 := h.blk.free 0
  have f1 := h.blk.free 1
  have f2 := h.blk.free 2
  have f3 := h.blk.free 3
  have f4 := h.blk.free 4
  have f5 := h.blk.free 5
  have fg := h.row.free j
  have hne := h.ne
  have hne' := hne.symm
  have hs := h.small
  have HA := Lib.hid (fun y => h.acc 5 (j := j) y)
  have HI := Lib.hid (rin_yes h hj)
  clear h
  generalize s.X.getD j 0 = x at *
  go_enter Try.func27, Try.ntmps27
  go_wp2_with fail
  refine HI.out.mono ?_
  rintro e w' ⟨rfl, rfl⟩
  go_wp2
  go_ret2
  exact ⟨rfl, HA.out _, ((((((Fr.refl _ _).setCell (by simp) _).setCell (by simp) _).setCell (by simp) _).setCell (by simp) _).setCell (by simp) _).setCell (by simp) _⟩

theorem racc_add {w : World} {p g cap : Nat} {s : St} (h : Ref w p g cap s) {j : Nat} (hj : j < s.X.length) (a b : Int) :
    Calls Try.prog 27 #[.pointer (some ⟨p, 0, none⟩), .int .i64 6, .int .i64 j, .int .u64 a, .int .u64 b] w fun e w' => e = .returned (.tuple #[.int .u64 (s.X.getD j 0), .bool true]) ∧
      Ref w' p g cap (s.acc 6 j (IntKind.u64.wrap (s.X.getD j 0 + a))) ∧ Fr [p, g] w w' := by
  have h0 : w.cell? ⟨p, 0, none⟩ = some (.slice (some ⟨g, 0, none⟩) s.X.length cap) := h.blk.at_ 0
  have h1 : w.cell? ⟨p, 1, none⟩ = some (.int .i64 s.k) := h.blk.at_ 1
  have h2 : w.cell? ⟨p, 2, none⟩ = some (.int .i64 s.i) := h.blk.at_ 2
  have h3 : w.cell? ⟨p, 3, none⟩ = some (.int .u64 s.o) := h.blk.at_ 3
  have h4 : w.cell? ⟨p, 4, none⟩ = some (.int .u64 s.v) := h.blk.at_ 4
  have h5 : w.cell? ⟨p, 5, none⟩ = some (.int .i64 s.c) := h.blk.at_ 5
  have hc : w.cell? ⟨g, j, none⟩ = some (.int .u64 (s.X.getD j 0)) := h.row.cell hj
  have f0 := h.blk.free 0
  have f1 := h.blk.free 1
  have f2 := h.blk.free 2
  have f3 := h.blk.free 3
  have f4 := h.blk.free 4
  have f5 := h.blk.free 5
  have fg := h.row.free j
  have hne := h.ne
  have hne' := hne.symm
  have hs := h.small
  have HA := Lib.hid (fun y => h.acc 6 (j := j) y)
  have HI := Lib.hid (rin_yes h hj)
  clear h
  generalize s.X.getD j 0 = x at *
  go_enter Try.func27, Try.ntmps27
  go_wp2_with fail
  refine HI.out.mono ?_
  rintro e w' ⟨rfl, rfl⟩
  go_wp2
  go_ret2
  exact ⟨rfl, HA.out _, ((((((Fr.refl _ _).setCell (by simp) _).setCell (by simp) _).setCell (by simp) _).setCell (by simp) _).setCell (by simp) _).setCell (by simp) _⟩

theorem rload_any {w : World} {p g cap : Nat} {s : St} (h : Ref w p g cap s) (i a b : Int) :
    Calls Try.prog 27 #[.pointer (some ⟨p, 0, none⟩), .int .i64 1, .int .i64 i, .int .u64 a, .int .u64 b] w fun e w' => e = .returned (.tuple #[.int .u64 (s.old i), .bool (decide (s.has i))]) ∧
      Ref w' p g cap (s.go 1 i (id)) ∧ Fr [p, g] w w' := by
  by_cases hi : s.has i
  · obtain ⟨j, rfl⟩ : ∃ j : Nat, i = (j : Int) := ⟨i.toNat, by have := hi.1; omega⟩
    refine (racc_load h (j := j) (by have := hi.2; omega) a b).mono ?_
    rintro e w' ⟨rfl, hm, hfr⟩
    simp only [St.old, St.go, if_pos hi, Int.toNat_natCast, decide_eq_true hi]
    exact ⟨trivial, hm, hfr⟩
  · refine (racc_no h (St.has_no hi) 1 a b).mono ?_
    rintro e w' ⟨rfl, rfl⟩
    simp only [St.old, St.go, if_neg hi, decide_eq_false hi]
    exact ⟨trivial, h, Fr.refl _ _⟩

theorem rstore_any {w : World} {p g cap : Nat} {s : St} (h : Ref w p g cap s) (i a b : Int) :
    Calls Try.prog 27 #[.pointer (some ⟨p, 0, none⟩), .int .i64 2, .int .i64 i, .int .u64 a, .int .u64 b] w fun e w' => e = .returned (.tuple #[.int .u64 (s.old i), .bool (decide (s.has i))]) ∧
      Ref w' p g cap (s.go 2 i (fun _ => a)) ∧ Fr [p, g] w w' := by
  by_cases hi : s.has i
  · obtain ⟨j, rfl⟩ : ∃ j : Nat, i = (j : Int) := ⟨i.toNat, by have := hi.1; omega⟩
    refine (racc_store h (j := j) (by have := hi.2; omega) a b).mono ?_
    rintro e w' ⟨rfl, hm, hfr⟩
    simp only [St.old, St.go, if_pos hi, Int.toNat_natCast, decide_eq_true hi]
    exact ⟨trivial, hm, hfr⟩
  · refine (racc_no h (St.has_no hi) 2 a b).mono ?_
    rintro e w' ⟨rfl, rfl⟩
    simp only [St.old, St.go, if_neg hi, decide_eq_false hi]
    exact ⟨trivial, h, Fr.refl _ _⟩

theorem ror_any {w : World} {p g cap : Nat} {s : St} (h : Ref w p g cap s) (i a b : Int) :
    Calls Try.prog 27 #[.pointer (some ⟨p, 0, none⟩), .int .i64 4, .int .i64 i, .int .u64 a, .int .u64 b] w fun e w' => e = .returned (.tuple #[.int .u64 (s.old i), .bool (decide (s.has i))]) ∧
      Ref w' p g cap (s.go 4 i (fun x => bits .or .u64 x a)) ∧ Fr [p, g] w w' := by
  by_cases hi : s.has i
  · obtain ⟨j, rfl⟩ : ∃ j : Nat, i = (j : Int) := ⟨i.toNat, by have := hi.1; omega⟩
    refine (racc_or h (j := j) (by have := hi.2; omega) a b).mono ?_
    rintro e w' ⟨rfl, hm, hfr⟩
    simp only [St.old, St.go, if_pos hi, Int.toNat_natCast, decide_eq_true hi]
    exact ⟨trivial, hm, hfr⟩
  · refine (racc_no h (St.has_no hi) 4 a b).mono ?_
    rintro e w' ⟨rfl, rfl⟩
    simp only [St.old, St.go, if_neg hi, decide_eq_false hi]
    exact ⟨trivial, h, Fr.refl _ _⟩

theorem rand_any {w : World} {p g cap : Nat} {s : St} (h : Ref w p g cap s) (i a b : Int) :
    Calls Try.prog 27 #[.pointer (some ⟨p, 0, none⟩), .int .i64 5, .int .i64 i, .int .u64 a, .int .u64 b] w fun e w' => e = .returned (.tuple #[.int .u64 (s.old i), .bool (decide (s.has i))]) ∧
      Ref w' p g cap (s.go 5 i (fun x => bits .and .u64 x a)) ∧ Fr [p, g] w w' := by
  by_cases hi : s.has i
  · obtain ⟨j, rfl⟩ : ∃ j : Nat, i = (j : Int) := ⟨i.toNat, by have := hi.1; omega⟩
    refine (racc_and h (j := j) (by have := hi.2; omega) a b).mono ?_
    rintro e w' ⟨rfl, hm, hfr⟩
    simp only [St.old, St.go, if_pos hi, Int.toNat_natCast, decide_eq_true hi]
    exact ⟨trivial, hm, hfr⟩
  · refine (racc_no h (St.has_no hi) 5 a b).mono ?_
    rintro e w' ⟨rfl, rfl⟩
    simp only [St.old, St.go, if_neg hi, decide_eq_false hi]
    exact ⟨trivial, h, Fr.refl _ _⟩

theorem radd_any {w : World} {p g cap : Nat} {s : St} (h : Ref w p g cap s) (i a b : Int) :
    Calls Try.prog 27 #[.pointer (some ⟨p, 0, none⟩), .int .i64 6, .int .i64 i, .int .u64 a, .int .u64 b] w fun e w' => e = .returned (.tuple #[.int .u64 (s.old i), .bool (decide (s.has i))]) ∧
      Ref w' p g cap (s.go 6 i (fun x => IntKind.u64.wrap (x + a))) ∧ Fr [p, g] w w' := by
  by_cases hi : s.has i
  · obtain ⟨j, rfl⟩ : ∃ j : Nat, i = (j : Int) := ⟨i.toNat, by have := hi.1; omega⟩
    refine (racc_add h (j := j) (by have := hi.2; omega) a b).mono ?_
    rintro e w' ⟨rfl, hm, hfr⟩
    simp only [St.old, St.go, if_pos hi, Int.toNat_natCast, decide_eq_true hi]
    exact ⟨trivial, hm, hfr⟩
  · refine (racc_no h (St.has_no hi) 6 a b).mono ?_
    rintro e w' ⟨rfl, rfl⟩
    simp only [St.old, St.go, if_neg hi, decide_eq_false hi]
    exact ⟨trivial, h, Fr.refl _ _⟩

theorem rcas_any {w : World} {p g cap : Nat} {s : St} (h : Ref w p g cap s) (i a b : Int) :
    Calls Try.prog 27 #[.pointer (some ⟨p, 0, none⟩), .int .i64 3, .int .i64 i, .int .u64 a, .int .u64 b] w fun e w' => e = .returned (.tuple #[.int .u64 (s.old i), .bool (s.hit i a)]) ∧
      Ref w' p g cap (s.go 3 i fun x => if x = a then b else x) ∧ Fr [p, g] w w' := by
  unfold St.hit
  by_cases hi : s.has i
  · obtain ⟨j, rfl⟩ : ∃ j : Nat, i = (j : Int) := ⟨i.toNat, by have := hi.1; omega⟩
    have hj : j < s.X.length := by have := hi.2; omega
    simp only [St.old, St.go, if_pos hi, Int.toNat_natCast, decide_eq_true hi]
    by_cases hx : s.X.getD j 0 = a
    · refine (racc_cas_yes h hj a b hx).mono ?_
      rintro e w' ⟨rfl, hm, hfr⟩
      rw [if_pos hx, hx]
      exact ⟨by simp, hm, hfr⟩
    · have hb : (s.X.getD j 0 == a) = false := by simpa using hx
      refine (racc_cas_no h hj a b hb).mono ?_
      rintro e w' ⟨rfl, hm, hfr⟩
      rw [if_neg hx, hb]
      exact ⟨rfl, hm, hfr⟩
  · refine (racc_no h (St.has_no hi) 3 a b).mono ?_
    rintro e w' ⟨rfl, rfl⟩
    simp only [St.old, St.go, if_neg hi, decide_eq_false hi]
    exact ⟨rfl, h, Fr.refl _ _⟩

end Go.Proofs.Ytbnaiogabcaboaa
