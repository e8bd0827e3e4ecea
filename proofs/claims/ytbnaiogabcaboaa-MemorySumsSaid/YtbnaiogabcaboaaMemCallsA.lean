/-
  Contracts of package memory: has, access and the functions that go through it.
-/
import Derived.Test.YtbnaiogabcaboaaMemBase
import Derived.WalkSpells
import Derived.WalkLawsBesides
import Derived.Lib.Hide
import Derived.Shelf.Abstract
import Derived.Outline
namespace Go.Proofs.Ytbnaiogabcaboaa
open Go Go.RowKit Go.Shelf

theorem has_yes {w : World} {p g cap : Nat} {s : St} (h : Mem w p g cap s) {j : Nat} (hj : j < s.X.length) :
    Calls Try.prog 30 #[.pointer (some ⟨p, 0, none⟩), .int .i64 j] w fun e w' => e = .returned (.bool true) ∧ w = w' := by
  have h0 : w.cell? ⟨p, 0, none⟩ = some (.slice (some ⟨g, 0, none⟩) s.X.length cap) := h.blk.at_ 0
  have hs := h.small
  go_enter Try.func30, Try.ntmps30
  go_wp2
  go_ret
  exact ⟨rfl, rfl⟩

theorem has_no {w : World} {p g cap : Nat} {s : St} (h : Mem w p g cap s) {i : Int} (hi : i < 0 ∨ (s.X.length : Int) ≤ i) :
    Calls Try.prog 30 #[.pointer (some ⟨p, 0, none⟩), .int .i64 i] w fun e w' => e = .returned (.bool false) ∧ w = w' := by
  have h0 : w.cell? ⟨p, 0, none⟩ = some (.slice (some ⟨g, 0, none⟩) s.X.length cap) := h.blk.at_ 0
  have hs := h.small
  by_cases h1 : i < 0
  · go_enter Try.func30, Try.ntmps30
    go_wp2
    go_ret
    exact ⟨rfl, rfl⟩
  · have h2 : (s.X.length : Int) ≤ i := by omega
    have h3 : decide (i < (s.X.length : Int)) = false := by simpa using h2
    go_enter Try.func30, Try.ntmps30
    go_wp2
    go_ret
    exact ⟨rfl, rfl⟩

theorem load_fn (x : Int) (w : World) : Calls Try.prog 32 #[.int .u64 x] w fun e w' => e = .returned (.int .u64 x) ∧ w = w' := by
  go_enter Try.func32, Try.ntmps32
  go_wp2
  go_ret
  exact ⟨rfl, rfl⟩
theorem store_fn (x v : Int) (a : Addr) (w : World) (h : w.cell? a = some (.int .u64 v)) : Calls Try.prog 35 #[.int .u64 x, .pointer (some a)] w fun e w' => e = .returned (.int .u64 v) ∧ w = w' := by
  go_enter Try.func35, Try.ntmps35
  go_wp2
  go_ret
  exact ⟨rfl, rfl⟩
theorem or_fn (x v : Int) (a : Addr) (w : World) (h : w.cell? a = some (.int .u64 v)) : Calls Try.prog 36 #[.int .u64 x, .pointer (some a)] w fun e w' => e = .returned (.int .u64 (bits .or .u64 x v)) ∧ w = w' := by
  go_enter Try.func36, Try.ntmps36
  go_wp2
  go_ret
  exact ⟨rfl, rfl⟩
theorem and_fn (x v : Int) (a : Addr) (w : World) (h : w.cell? a = some (.int .u64 v)) : Calls Try.prog 37 #[.int .u64 x, .pointer (some a)] w fun e w' => e = .returned (.int .u64 (bits .and .u64 x v)) ∧ w = w' := by
  go_enter Try.func37, Try.ntmps37
  go_wp2
  go_ret
  exact ⟨rfl, rfl⟩
theorem add_fn (x v : Int) (a : Addr) (w : World) (h : w.cell? a = some (.int .u64 v)) : Calls Try.prog 34 #[.int .u64 x, .pointer (some a)] w fun e w' => e = .returned (.int .u64 (IntKind.u64.wrap (x + v))) ∧ w = w' := by
  go_enter Try.func34, Try.ntmps34
  go_wp2
  go_ret
  exact ⟨rfl, rfl⟩
theorem cas_fn (x v u : Int) (a b : Addr) (w : World) (h : w.cell? a = some (.int .u64 v)) (h' : w.cell? b = some (.int .u64 u)) : Calls Try.prog 38 #[.int .u64 x, .pointer (some a), .pointer (some b)] w fun e w' => e = .returned (.int .u64 (if x = v then u else x)) ∧ w = w' := by
  by_cases hx : x = v
  · subst hx
    go_enter Try.func38, Try.ntmps38
    go_wp2
    go_ret
    exact ⟨by simp, rfl⟩
  · have hb : (x == v) = false := by simpa using hx
    go_enter Try.func38, Try.ntmps38
    go_wp2
    go_ret
    exact ⟨by simp, rfl⟩

set_option maxHeartbeats 1000000 in
theorem access_yes {w : World} {p g cap : Nat} {s : St} (h : Mem w p g cap s) {j : Nat} (hj : j < s.X.length) (k : Int) (fk : Nat) (fc : Array Value) (y : Int)
    (he : ∀ (args : Array Value) (w : World), (callFunc fk args).run Try.prog w = .ok (.enter fk args) w)
    (hf : Calls Try.prog fk (#[.int .u64 (s.X.getD j 0)] ++ fc) w fun e w' => e = .returned (.int .u64 y) ∧ w = w') :
    Calls Try.prog 31 #[.pointer (some ⟨p, 0, none⟩), .int .i64 k, .int .i64 j, .func (.func fk) #[] fc] w fun e w' => e = .returned (.tuple #[.int .u64 (s.X.getD j 0), .bool true]) ∧
      Mem w' p g cap (s.acc k j y) ∧ Fr [p, g] w w' := by
  have h0 : w.cell? ⟨p, 0, none⟩ = some (.slice (some ⟨g, 0, none⟩) s.X.length cap) := h.blk.at_ 0
  have h1 : w.cell? ⟨p, 1, none⟩ = some (.int .i64 s.c) := h.blk.at_ 1
  have h2 : w.cell? ⟨p, 2, none⟩ = some (.int .i64 s.k) := h.blk.at_ 2
  have h3 : w.cell? ⟨p, 3, none⟩ = some (.int .i64 s.i) := h.blk.at_ 3
  have h4 : w.cell? ⟨p, 4, none⟩ = some (.int .u64 s.o) := h.blk.at_ 4
  have h5 : w.cell? ⟨p, 5, none⟩ = some (.int .u64 s.v) := h.blk.at_ 5
  have hc : w.cell? ⟨g, j, none⟩ = some (.int .u64 (s.X.getD j 0)) := h.row.cell hj
  have f0 := h.blk.free 0
  have f1 := h.blk.free 1
  have f2 := h.blk.free 2
  have f3 := h.blk.free 3
  have f4 := h.blk.free 4
  have f5 := h.blk.free 5
  have fg := h.row.free j
  have hne := h.ne
  have hne' := hne.symm
  have hs := h.small
  generalize hx : s.X.getD j 0 = x at *
  have HX := Lib.hid hx
  clear hx
  go_enter Try.func31, Try.ntmps31
  go_wp2_with fail
  refine (has_yes h hj).mono ?_
  rintro e w' ⟨rfl, rfl⟩
  go_wp2_with fail
  refine hf.mono ?_
  rintro e w' ⟨rfl, rfl⟩
  clear he hf
  go_wp2
  go_ret2
  have e := HX.out
  subst e
  exact ⟨rfl, h.acc k y, ((((((Fr.refl _ _).setCell (by simp) _).setCell (by simp) _).setCell (by simp) _).setCell (by simp) _).setCell (by simp) _).setCell (by simp) _⟩

theorem access_no {w : World} {p g cap : Nat} {s : St} (h : Mem w p g cap s) {i : Int} (hi : i < 0 ∨ (s.X.length : Int) ≤ i) (k : Int) (f : Value) :
    Calls Try.prog 31 #[.pointer (some ⟨p, 0, none⟩), .int .i64 k, .int .i64 i, f] w fun e w' => e = .returned (.tuple #[.int .u64 0, .bool false]) ∧ w = w' := by
  go_enter Try.func31, Try.ntmps31
  go_wp2_with fail
  refine (has_no h hi).mono ?_
  rintro e w' ⟨rfl, rfl⟩
  go_wp2
  go_ret2
  exact ⟨rfl, rfl⟩

/-- Is there such a cell? -/
def St.has (s : St) (i : Int) : Prop := 0 ≤ i ∧ i < (s.X.length : Int)
instance (s : St) (i : Int) : Decidable (s.has i) := inferInstanceAs (Decidable (0 ≤ i ∧ i < (s.X.length : Int)))
/-- What a cell contains; 0 where there is none. -/
def St.old (s : St) (i : Int) : Int := if s.has i then s.X.getD i.toNat 0 else 0
/-- The state behind an access by which a cell's contents x become F x; where there is no cell, nothing happens. -/
def St.go (s : St) (k i : Int) (F : Int → Int) : St := if s.has i then s.acc k i.toNat (F (s.X.getD i.toNat 0)) else s
/-- Does the cell contain v? -/
def St.hit (s : St) (i v : Int) : Bool := decide (s.has i) && s.old i == v

theorem St.has_no {s : St} {i : Int} (h : ¬ s.has i) : i < 0 ∨ (s.X.length : Int) ≤ i := by unfold St.has at h; omega

/-- access, whatever the cell. -/
theorem access_any {w : World} {p g cap : Nat} {s : St} (h : Mem w p g cap s) (k i : Int) (fk : Nat) (fc : Array Value) (F : Int → Int)
    (he : ∀ (args : Array Value) (w : World), (callFunc fk args).run Try.prog w = .ok (.enter fk args) w)
    (hf : ∀ x, Calls Try.prog fk (#[.int .u64 x] ++ fc) w fun e w' => e = .returned (.int .u64 (F x)) ∧ w = w') :
    Calls Try.prog 31 #[.pointer (some ⟨p, 0, none⟩), .int .i64 k, .int .i64 i, .func (.func fk) #[] fc] w fun e w' => e = .returned (.tuple #[.int .u64 (s.old i), .bool (decide (s.has i))]) ∧
      Mem w' p g cap (s.go k i F) ∧ Fr [p, g] w w' := by
  by_cases hi : s.has i
  · obtain ⟨j, rfl⟩ : ∃ j : Nat, i = (j : Int) := ⟨i.toNat, by have := hi.1; omega⟩
    have hj : j < s.X.length := by have := hi.2; omega
    refine (access_yes h hj k fk fc _ he (hf _)).mono ?_
    rintro e w' ⟨rfl, hm, hfr⟩
    simp only [St.old, St.go, if_pos hi, Int.toNat_natCast, decide_eq_true hi]
    exact ⟨trivial, hm, hfr⟩
  · refine (access_no h (St.has_no hi) k _).mono ?_
    rintro e w' ⟨rfl, rfl⟩
    simp only [St.old, St.go, if_neg hi, decide_eq_false hi]
    exact ⟨trivial, h, Fr.refl _ _⟩

theorem load_any {w : World} {p g cap : Nat} {s : St} (h : Mem w p g cap s) (i : Int) :
    Calls Try.prog 19 #[.pointer (some ⟨p, 0, none⟩), .int .i64 i] w fun e w' => e = .returned (.int .u64 (s.old i)) ∧ Mem w' p g cap (s.go 1 i id) ∧ Fr [p, g] w w' := by
  have H := access_any h 1 i 32 #[] id (enters_of Try.func32 (by kernel_rfl) rfl) (fun x => load_fn x w)
  generalize s.old i = x at *
  generalize decide (s.has i) = b at *
  go_enter Try.func19, Try.ntmps19
  go_wp2_with fail
  refine H.mono ?_
  rintro e w' ⟨rfl, hm, hfr⟩
  go_wp2
  go_ret
  exact ⟨rfl, hm, hfr⟩

theorem add_any {w : World} {p g cap : Nat} {s : St} (h : Mem w p g cap s) (i v : Int) :
    Calls Try.prog 22 #[.pointer (some ⟨p, 0, none⟩), .int .i64 i, .int .u64 v] w fun e w' => e = .returned (.int .u64 (s.old i)) ∧ Mem w' p g cap (s.go 6 i fun x => IntKind.u64.wrap (x + v)) ∧ Fr [p, g] w w' := by
  have hc : (w.alloc (.cells #[.int .u64 v] 26)).cell? ⟨w.heap.size, 0, none⟩ = some (.int .u64 v) := (Blk.made w 26 #[.int .u64 v]).at_ 0
  have H := access_any (h.alloc (.cells #[.int .u64 v] 26)) 6 i 34 #[.pointer (some ⟨w.heap.size, 0, none⟩)] _ (enters_of Try.func34 (by kernel_rfl) rfl) (fun x => add_fn x v _ _ hc)
  generalize s.old i = x at *
  generalize decide (s.has i) = b at *
  go_enter Try.func22, Try.ntmps22
  go_wp2_with fail
  refine H.mono ?_
  rintro e w' ⟨rfl, hm, hfr⟩
  go_wp2
  go_ret
  exact ⟨rfl, hm, ((Fr.refl _ _).alloc _).trans hfr⟩

theorem or_any {w : World} {p g cap : Nat} {s : St} (h : Mem w p g cap s) (i v : Int) :
    Calls Try.prog 24 #[.pointer (some ⟨p, 0, none⟩), .int .i64 i, .int .u64 v] w fun e w' => e = .returned (.int .u64 (s.old i)) ∧ Mem w' p g cap (s.go 4 i fun x => bits .or .u64 x v) ∧ Fr [p, g] w w' := by
  have hc : (w.alloc (.cells #[.int .u64 v] 26)).cell? ⟨w.heap.size, 0, none⟩ = some (.int .u64 v) := (Blk.made w 26 #[.int .u64 v]).at_ 0
  have H := access_any (h.alloc (.cells #[.int .u64 v] 26)) 4 i 36 #[.pointer (some ⟨w.heap.size, 0, none⟩)] _ (enters_of Try.func36 (by kernel_rfl) rfl) (fun x => or_fn x v _ _ hc)
  generalize s.old i = x at *
  generalize decide (s.has i) = b at *
  go_enter Try.func24, Try.ntmps24
  go_wp2_with fail
  refine H.mono ?_
  rintro e w' ⟨rfl, hm, hfr⟩
  go_wp2
  go_ret
  exact ⟨rfl, hm, ((Fr.refl _ _).alloc _).trans hfr⟩

theorem and_any {w : World} {p g cap : Nat} {s : St} (h : Mem w p g cap s) (i v : Int) :
    Calls Try.prog 25 #[.pointer (some ⟨p, 0, none⟩), .int .i64 i, .int .u64 v] w fun e w' => e = .returned (.int .u64 (s.old i)) ∧ Mem w' p g cap (s.go 5 i fun x => bits .and .u64 x v) ∧ Fr [p, g] w w' := by
  have hc : (w.alloc (.cells #[.int .u64 v] 26)).cell? ⟨w.heap.size, 0, none⟩ = some (.int .u64 v) := (Blk.made w 26 #[.int .u64 v]).at_ 0
  have H := access_any (h.alloc (.cells #[.int .u64 v] 26)) 5 i 37 #[.pointer (some ⟨w.heap.size, 0, none⟩)] _ (enters_of Try.func37 (by kernel_rfl) rfl) (fun x => and_fn x v _ _ hc)
  generalize s.old i = x at *
  generalize decide (s.has i) = b at *
  go_enter Try.func25, Try.ntmps25
  go_wp2_with fail
  refine H.mono ?_
  rintro e w' ⟨rfl, hm, hfr⟩
  go_wp2
  go_ret
  exact ⟨rfl, hm, ((Fr.refl _ _).alloc _).trans hfr⟩

theorem store_any {w : World} {p g cap : Nat} {s : St} (h : Mem w p g cap s) (i v : Int) :
    Calls Try.prog 23 #[.pointer (some ⟨p, 0, none⟩), .int .i64 i, .int .u64 v] w fun e w' => e = .returned (.tuple #[]) ∧ Mem w' p g cap (s.go 2 i fun _ => v) ∧ Fr [p, g] w w' := by
  have hc : (w.alloc (.cells #[.int .u64 v] 26)).cell? ⟨w.heap.size, 0, none⟩ = some (.int .u64 v) := (Blk.made w 26 #[.int .u64 v]).at_ 0
  have H := access_any (h.alloc (.cells #[.int .u64 v] 26)) 2 i 35 #[.pointer (some ⟨w.heap.size, 0, none⟩)] _ (enters_of Try.func35 (by kernel_rfl) rfl) (fun x => store_fn x v _ _ hc)
  generalize s.old i = x at *
  generalize decide (s.has i) = b at *
  go_enter Try.func23, Try.ntmps23
  go_wp2_with fail
  refine H.mono ?_
  rintro e w' ⟨rfl, hm, hfr⟩
  go_wp2
  go_end0
  exact ⟨rfl, hm, ((Fr.refl _ _).alloc _).trans hfr⟩

theorem cas_any {w : World} {p g cap : Nat} {s : St} (h : Mem w p g cap s) (i v u : Int) :
    Calls Try.prog 26 #[.pointer (some ⟨p, 0, none⟩), .int .i64 i, .int .u64 v, .int .u64 u] w fun e w' => e = .returned (.bool (s.hit i v)) ∧ Mem w' p g cap (s.go 3 i fun x => if x = v then u else x) ∧ Fr [p, g] w w' := by
  have hc : ((w.alloc (.cells #[.int .u64 v] 26)).alloc (.cells #[.int .u64 u] 26)).cell? ⟨w.heap.size, 0, none⟩ = some (.int .u64 v) := ((Blk.made w 26 #[.int .u64 v]).of_same (Below.heap_alloc _ _ _ (by simp))).at_ 0
  have hd : ((w.alloc (.cells #[.int .u64 v] 26)).alloc (.cells #[.int .u64 u] 26)).cell? ⟨w.heap.size + 1, 0, none⟩ = some (.int .u64 u) := by
    simp
  have H := access_any ((h.alloc (.cells #[.int .u64 v] 26)).alloc (.cells #[.int .u64 u] 26)) 3 i 38 #[.pointer (some ⟨w.heap.size, 0, none⟩), .pointer (some ⟨w.heap.size + 1, 0, none⟩)] _ (enters_of Try.func38 (by kernel_rfl) rfl) (fun x => cas_fn x v u _ _ _ hc hd)
  unfold St.hit
  by_cases hi : s.has i
  · simp only [decide_eq_true hi] at H ⊢
    generalize s.old i = x at *
    clear hd hi
    go_enter Try.func26, Try.ntmps26
    go_wp2_with fail
    refine H.mono ?_
    rintro e w' ⟨rfl, hm, hfr⟩
    have hc' : w'.cell? ⟨w.heap.size, 0, none⟩ = some (.int .u64 v) := by
      rw [World.cell?_of_block (hfr.block w.heap.size (by simp; omega) (by have := h.blk.lt; have := h.row.lt; simp; omega))]
      exact hc
    clear hc H
    go_wp2
    go_ret
    exact ⟨by simp, hm, (((Fr.refl _ _).alloc _).alloc _).trans hfr⟩
  · simp only [decide_eq_false hi] at H ⊢
    generalize s.old i = x at *
    clear hd hi hc
    go_enter Try.func26, Try.ntmps26
    go_wp2_with fail
    refine H.mono ?_
    rintro e w' ⟨rfl, hm, hfr⟩
    clear H
    go_wp2
    go_ret
    exact ⟨by simp, hm, (((Fr.refl _ _).alloc _).alloc _).trans hfr⟩
end Go.Proofs.Ytbnaiogabcaboaa
