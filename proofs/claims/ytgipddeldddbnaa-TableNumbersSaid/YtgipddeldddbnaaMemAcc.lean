/-
  Package memory: has, access.
-/
import Derived.Test.YtgipddeldddbnaaMgAK
import Derived.WalkSpells
import Derived.WalkLawsBesides
import Derived.Lib.Hide
import Derived.Shelf.Abstract
import Derived.Outline
namespace Go.Proofs.Ytgipddeldddbnaa
open Go Go.RowKit Go.Shelf

theorem has_yes {w : World} {p g cap : Nat} {s : St} (h : Mem w p g cap s) {j : Nat} (hj : j < s.X.length) :
    Calls Try.prog 63 #[.pointer (some ⟨p, 0, none⟩), .int .i64 j] w fun e w' => e = .returned (.bool true) ∧ w = w' := by
  have h0 : w.cell? ⟨p, 0, none⟩ = some (.slice (some ⟨g, 0, none⟩) s.X.length cap) := h.blk.at_ 0
  have hs := h.small
  go_enter Try.func63, Try.ntmps63
  go_wp2
  go_ret
  exact ⟨rfl, rfl⟩

theorem has_no {w : World} {p g cap : Nat} {s : St} (h : Mem w p g cap s) {i : Int} (hi : i < 0 ∨ (s.X.length : Int) ≤ i) :
    Calls Try.prog 63 #[.pointer (some ⟨p, 0, none⟩), .int .i64 i] w fun e w' => e = .returned (.bool false) ∧ w = w' := by
  have h0 : w.cell? ⟨p, 0, none⟩ = some (.slice (some ⟨g, 0, none⟩) s.X.length cap) := h.blk.at_ 0
  have hs := h.small
  by_cases h1 : i < 0
  · go_enter Try.func63, Try.ntmps63
    go_wp2
    go_ret
    exact ⟨rfl, rfl⟩
  · have h2 : (s.X.length : Int) ≤ i := by omega
    have h3 : decide (i < (s.X.length : Int)) = false := by simpa using h2
    go_enter Try.func63, Try.ntmps63
    go_wp2
    go_ret
    exact ⟨rfl, rfl⟩

set_option maxHeartbeats 1000000 in
theorem access_yes {w : World} {p g cap : Nat} {s : St} (h : Mem w p g cap s) {j : Nat} (hj : j < s.X.length) (k : Int) (fk : Nat) (fc : Array Value) (y : Int)
    (he : ∀ (args : Array Value) (w : World), (callFunc fk args).run Try.prog w = .ok (.enter fk args) w)
    (hf : Calls Try.prog fk (#[.int .u64 (s.X.getD j 0)] ++ fc) w fun e w' => e = .returned (.int .u64 y) ∧ w = w') :
    Calls Try.prog 61 #[.pointer (some ⟨p, 0, none⟩), .int .i64 k, .int .i64 j, .func (.func fk) #[] fc] w fun e w' => e = .returned (.tuple #[.int .u64 (s.X.getD j 0), .bool true]) ∧
      Mem w' p g cap (s.acc k j y) ∧ Fr [p, g] w w' := by
  have h0 : w.cell? ⟨p, 0, none⟩ = some (.slice (some ⟨g, 0, none⟩) s.X.length cap) := h.blk.at_ 0
  have h1 : w.cell? ⟨p, 1, none⟩ = some (.int .i64 s.c) := h.blk.at_ 1
  have h2 : w.cell? ⟨p, 2, none⟩ = some (.int .i64 s.k) := h.blk.at_ 2
  have h3 : w.cell? ⟨p, 3, none⟩ = some (.int .i64 s.i) := h.blk.at_ 3
  have h4 : w.cell? ⟨p, 4, none⟩ = some (.int .u64 s.o) := h.blk.at_ 4
  have h5 : w.cell? ⟨p, 5, none⟩ = some (.int .u64 s.v) := h.blk.at_ 5
  have hc : w.cell? ⟨g, j, none⟩ = some (.int .u64 (s.X.getD j 0)) := h.row.cell hj
  have f0 := h.blk.free 0
  have f1 := h.blk.free 1
  have f2 := h.blk.free 2
  have f3 := h.blk.free 3
  have f4 := h.blk.free 4
  have f5 := h.blk.free 5
  have fg := h.row.free j
  have hne := h.ne
  have hne' := hne.symm
  have hs := h.small
  generalize hx : s.X.getD j 0 = x at *
  have HX := Lib.hid hx
  clear hx
  go_enter Try.func61, Try.ntmps61
  go_wp2_with fail
  refine (has_yes h hj).mono ?_
  rintro e w' ⟨rfl, rfl⟩
  go_wp2_with fail
  refine hf.mono ?_
  rintro e w' ⟨rfl, rfl⟩
  clear he hf
  go_wp2
  go_ret2
  have e := HX.out
  subst e
  exact ⟨rfl, h.acc k y, ((((((Fr.refl _ _).setCell (by simp) _).setCell (by simp) _).setCell (by simp) _).setCell (by simp) _).setCell (by simp) _).setCell (by simp) _⟩

theorem access_no {w : World} {p g cap : Nat} {s : St} (h : Mem w p g cap s) {i : Int} (hi : i < 0 ∨ (s.X.length : Int) ≤ i) (k : Int) (f : Value) :
    Calls Try.prog 61 #[.pointer (some ⟨p, 0, none⟩), .int .i64 k, .int .i64 i, f] w fun e w' => e = .returned (.tuple #[.int .u64 0, .bool false]) ∧ w = w' := by
  go_enter Try.func61, Try.ntmps61
  go_wp2_with fail
  refine (has_no h hi).mono ?_
  rintro e w' ⟨rfl, rfl⟩
  go_wp2
  go_ret2
  exact ⟨rfl, rfl⟩

/-- access, whatever the cell. -/
theorem access_any {w : World} {p g cap : Nat} {s : St} (h : Mem w p g cap s) (k i : Int) (fk : Nat) (fc : Array Value) (F : Int → Int)
    (he : ∀ (args : Array Value) (w : World), (callFunc fk args).run Try.prog w = .ok (.enter fk args) w)
    (hf : ∀ x, Calls Try.prog fk (#[.int .u64 x] ++ fc) w fun e w' => e = .returned (.int .u64 (F x)) ∧ w = w') :
    Calls Try.prog 61 #[.pointer (some ⟨p, 0, none⟩), .int .i64 k, .int .i64 i, .func (.func fk) #[] fc] w fun e w' => e = .returned (.tuple #[.int .u64 (s.old i), .bool (decide (s.has i))]) ∧
      Mem w' p g cap (s.go k i F) ∧ Fr [p, g] w w' := by
  by_cases hi : s.has i
  · obtain ⟨j, rfl⟩ : ∃ j : Nat, i = (j : Int) := ⟨i.toNat, by have := hi.1; omega⟩
    have hj : j < s.X.length := by have := hi.2; omega
    refine (access_yes h hj k fk fc _ he (hf _)).mono ?_
    rintro e w' ⟨rfl, hm, hfr⟩
    simp only [St.old, St.go, if_pos hi, Int.toNat_natCast, decide_eq_true hi]
    exact ⟨trivial, hm, hfr⟩
  · refine (access_no h (St.has_no hi) k _).mono ?_
    rintro e w' ⟨rfl, rfl⟩
    simp only [St.old, St.go, if_neg hi, decide_eq_false hi]
    exact ⟨trivial, h, Fr.refl _ _⟩
end Go.Proofs.Ytgipddeldddbnaa
