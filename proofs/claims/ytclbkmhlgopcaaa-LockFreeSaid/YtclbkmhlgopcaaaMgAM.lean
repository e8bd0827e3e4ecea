/-
  Package levels: the deque and the bitmap of a machine, by the layout of the environment.
  Package memory: Cas.
  Package memory: Store.
-/
import Derived.Test.YtclbkmhlgopcaaaMgAJ
import Derived.Test.YtclbkmhlgopcaaaMgAL
import Derived.Deep.RegionHeld3
import Derived.Test.YtclbkmhlgopcaaaMemAcc
namespace Go.Proofs.Ytclbkmhlgopcaaa
open Go Go.RowKit Go.Shelf
set_option linter.unusedSimpArgs false

/-- The cells ahead of an environment's pointers hold the layout of c. -/
def LayHd (hd : List Value) (c : Cfg) : Prop := ∀ j, j < 9 → hd[11 + j]? = (lcells c)[j]?
section
variable {w w' : World} {p m k g cap : Nat} {s s' : St} {t d : Int} {hd : List Value} {rv ev : Value} {c : Cfg}
theorem PE.lay (h : PE w p m k g cap s t d hd rv ev) (hl : LayHd hd c) (j : Nat) (hj : j < 9) : w.cell? ⟨p, 11 + j, none⟩ = (lcells c)[j]? := by
  rw [h.blk.at_, List.getElem?_toArray, List.getElem?_append_left (by have := h.len; omega)]
  exact hl j hj
/-- The nine cells of the layout. -/
def LayS (w : World) (p : Nat) (c : Cfg) : Prop := w.cell? ⟨p, 11, none⟩ = some (.int .i64 4) ∧ w.cell? ⟨p, 12, none⟩ = some (.int .i64 (4 + c.he)) ∧ w.cell? ⟨p, 13, none⟩ = some (.int .i64 (4 + c.he + c.cl)) ∧ w.cell? ⟨p, 14, none⟩ = some (.int .i64 (4 + c.he + c.cl + c.wo)) ∧ w.cell? ⟨p, 15, none⟩ = some (.int .i64 (rDeques c)) ∧ w.cell? ⟨p, 16, none⟩ = some (.int .i64 (rDeques c + rAll c)) ∧ w.cell? ⟨p, 17, none⟩ = some (.int .i64 (rCells c)) ∧ w.cell? ⟨p, 18, none⟩ = some (.int .i64 c.le) ∧ w.cell? ⟨p, 19, none⟩ = some (.int .i64 c.de)
theorem PE.layS (h : PE w p m k g cap s t d hd rv ev) (hl : LayHd hd c) : LayS w p c :=
  ⟨h.lay hl 0 (by omega), h.lay hl 1 (by omega), h.lay hl 2 (by omega), h.lay hl 3 (by omega), h.lay hl 4 (by omega), h.lay hl 5 (by omega), h.lay hl 6 (by omega), h.lay hl 7 (by omega), h.lay hl 8 (by omega)⟩
variable {b : Nat} {ty : TypeId} {cs : Array Value}
end
end Go.Proofs.Ytclbkmhlgopcaaa

namespace Go.Proofs.Ytclbkmhlgopcaaa
open Go Go.RowKit Go.Shelf

theorem cas_fn (x v u : Int) (a b : Addr) (w : World) (h : w.cell? a = some (.int .u64 v)) (h' : w.cell? b = some (.int .u64 u)) : Calls Try.prog 71 #[.int .u64 x, .pointer (some a), .pointer (some b)] w fun e w' => e = .returned (.int .u64 (if x = v then u else x)) ∧ w = w' := by
  by_cases hx : x = v
  · subst hx
    go_enter Try.func71, Try.ntmps71
    go_wp2
    go_ret
    exact ⟨by simp, rfl⟩
  · have hb : (x == v) = false := by simpa using hx
    go_enter Try.func71, Try.ntmps71
    go_wp2
    go_ret
    exact ⟨by simp, rfl⟩

theorem cas_any {w : World} {p g cap : Nat} {s : St} (h : Mem w p g cap s) (i v u : Int) :
    Calls Try.prog 70 #[.pointer (some ⟨p, 0, none⟩), .int .i64 i, .int .u64 v, .int .u64 u] w fun e w' => e = .returned (.bool (s.hit i v)) ∧ Mem w' p g cap (s.go 3 i fun x => if x = v then u else x) ∧ Fr [p, g] w w' := by
  have hc : ((w.alloc (.cells #[.int .u64 v] 51)).alloc (.cells #[.int .u64 u] 51)).cell? ⟨w.heap.size, 0, none⟩ = some (.int .u64 v) := ((Blk.made w 51 #[.int .u64 v]).of_same (Below.heap_alloc _ _ _ (by simp))).at_ 0
  have hd : ((w.alloc (.cells #[.int .u64 v] 51)).alloc (.cells #[.int .u64 u] 51)).cell? ⟨w.heap.size + 1, 0, none⟩ = some (.int .u64 u) := by
    simp
  have H := access_any ((h.alloc (.cells #[.int .u64 v] 51)).alloc (.cells #[.int .u64 u] 51)) 3 i 71 #[.pointer (some ⟨w.heap.size, 0, none⟩), .pointer (some ⟨w.heap.size + 1, 0, none⟩)] _ (enters_of Try.func71 (by kernel_rfl) rfl) (fun x => cas_fn x v u _ _ _ hc hd)
  unfold St.hit
  by_cases hi : s.has i
  · simp only [decide_eq_true hi] at H ⊢
    generalize s.old i = x at *
    clear hd hi
    go_enter Try.func70, Try.ntmps70
    go_wp2_with fail
    refine H.mono ?_
    rintro e w' ⟨rfl, hm, hfr⟩
    have hc' : w'.cell? ⟨w.heap.size, 0, none⟩ = some (.int .u64 v) := by
      rw [World.cell?_of_block (hfr.block w.heap.size (by simp; omega) (by have := h.blk.lt; have := h.row.lt; simp; omega))]
      exact hc
    clear hc H
    go_wp2
    go_ret
    exact ⟨by simp, hm, (((Fr.refl _ _).alloc _).alloc _).trans hfr⟩
  · simp only [decide_eq_false hi] at H ⊢
    generalize s.old i = x at *
    clear hd hi hc
    go_enter Try.func70, Try.ntmps70
    go_wp2_with fail
    refine H.mono ?_
    rintro e w' ⟨rfl, hm, hfr⟩
    clear H
    go_wp2
    go_ret
    exact ⟨by simp, hm, (((Fr.refl _ _).alloc _).alloc _).trans hfr⟩
end Go.Proofs.Ytclbkmhlgopcaaa

namespace Go.Proofs.Ytclbkmhlgopcaaa
open Go Go.RowKit Go.Shelf

theorem store_fn (x v : Int) (a : Addr) (w : World) (h : w.cell? a = some (.int .u64 v)) : Calls Try.prog 65 #[.int .u64 x, .pointer (some a)] w fun e w' => e = .returned (.int .u64 v) ∧ w = w' := by
  go_enter Try.func65, Try.ntmps65
  go_wp2
  go_ret
  exact ⟨rfl, rfl⟩

theorem store_any {w : World} {p g cap : Nat} {s : St} (h : Mem w p g cap s) (i v : Int) :
    Calls Try.prog 61 #[.pointer (some ⟨p, 0, none⟩), .int .i64 i, .int .u64 v] w fun e w' => e = .returned (.tuple #[]) ∧ Mem w' p g cap (s.go 2 i fun _ => v) ∧ Fr [p, g] w w' := by
  have hc : (w.alloc (.cells #[.int .u64 v] 51)).cell? ⟨w.heap.size, 0, none⟩ = some (.int .u64 v) := (Blk.made w 51 #[.int .u64 v]).at_ 0
  have H := access_any (h.alloc (.cells #[.int .u64 v] 51)) 2 i 65 #[.pointer (some ⟨w.heap.size, 0, none⟩)] _ (enters_of Try.func65 (by kernel_rfl) rfl) (fun x => store_fn x v _ _ hc)
  generalize s.old i = x at *
  generalize decide (s.has i) = b at *
  go_enter Try.func61, Try.ntmps61
  go_wp2_with fail
  refine H.mono ?_
  rintro e w' ⟨rfl, hm, hfr⟩
  go_wp2
  go_end0
  exact ⟨rfl, hm, ((Fr.refl _ _).alloc _).trans hfr⟩
end Go.Proofs.Ytclbkmhlgopcaaa
