/-
  Package bitmap: Copy of its machines. (Written by wip/gen_bm.py.)
  Package memory: Cas.
-/
import Derived.Test.YtllllbepnnpeeaaGreatBmA
import Derived.Test.YtllllbepnnpeeaaGreatDuo
import Derived.Test.YtllllbepnnpeeaaGreatMgAB
namespace Go.Proofs.YtllllbepnnpeeaaGreat
open Go Go.RowKit Go.Shelf
set_option linter.unusedSimpArgs false

theorem copy_setter {w : World} {q : Nat} {f : Fra} {cd vl : Int} (h : LB w q 140 [.int .i64 f.fa, .int .u64 (maskS f.fb)] f cd vl) :
    Calls Tryz.prog 184 #[.pointer (some ⟨q, 0, none⟩)] w fun e w' => e = .returned (.iface 132 (.pointer (some ⟨w.heap.size, 0, none⟩))) ∧ LB w' w.heap.size 140 [.int .i64 f.fa, .int .u64 (maskS f.fb)] f cd vl ∧ Below w.heap.size w w' := by
  have c0 : w.cell? ⟨q, 0, none⟩ = some (.int .i64 f.ln) := h.blk.at_ 0
  have c1 : w.cell? ⟨q, 1, none⟩ = some (.int .i64 cd) := h.blk.at_ 1
  have c2 : w.cell? ⟨q, 2, none⟩ = some (.int .i64 vl) := h.blk.at_ 2
  have c3 : w.cell? ⟨q, 3, none⟩ = some (.int .i64 f.fa) := h.blk.at_ 3
  have c4 : w.cell? ⟨q, 4, none⟩ = some (.int .u64 (maskS f.fb)) := h.blk.at_ 4
  clear h
  go_enter Tryz.func184, Tryz.ntmps184
  go_wp2
  go_ret
  exact ⟨rfl, ⟨Blk.made w _ _, by decide, by decide, by decide, by decide⟩, below_one w _⟩
theorem meth_copy_setter (q : Nat) (w : World) : (method 366 132 (.pointer (some ⟨q, 0, none⟩)) "Copy").run Tryz.prog w = .ok (184, .pointer (some ⟨q, 0, none⟩)) w := by kernel_rfl
theorem ahead_copy_setter (q : Nat) (w : World) : (nilAhead 366 132 (.pointer (some ⟨q, 0, none⟩)) "Copy").run Tryz.prog w = .ok (some false) w := by kernel_rfl
theorem odd_setter : Odd 140 := ⟨by decide, by decide, by decide, by decide, by decide, by decide, by decide, by decide⟩

theorem copy_clearer {w : World} {q : Nat} {f : Fra} {cd vl : Int} (h : OB w q 146 [.int .i64 f.fa, .int .u64 (maskS f.fb)] f cd vl) :
    Calls Tryz.prog 192 #[.pointer (some ⟨q, 0, none⟩)] w fun e w' => e = .returned (.iface 141 (.pointer (some ⟨w.heap.size, 0, none⟩))) ∧ OB w' w.heap.size 146 [.int .i64 f.fa, .int .u64 (maskS f.fb)] f cd vl ∧ Below w.heap.size w w' := by
  have c0 : w.cell? ⟨q, 0, none⟩ = some (.int .i64 f.ln) := h.blk.at_ 0
  have c1 : w.cell? ⟨q, 1, none⟩ = some (.int .i64 cd) := h.blk.at_ 1
  have c2 : w.cell? ⟨q, 2, none⟩ = some (.int .i64 vl) := h.blk.at_ 2
  have c3 : w.cell? ⟨q, 3, none⟩ = some (.int .i64 f.qt) := h.blk.at_ 3
  have c4 : w.cell? ⟨q, 4, none⟩ = some (.int .i64 f.qb) := h.blk.at_ 4
  have c5 : w.cell? ⟨q, 5, none⟩ = some (.int .i64 f.qr) := h.blk.at_ 5
  have c6 : w.cell? ⟨q, 6, none⟩ = some (.int .i64 f.qc) := h.blk.at_ 6
  have c7 : w.cell? ⟨q, 7, none⟩ = some (.int .u64 f.fu) := h.blk.at_ 7
  have c8 : w.cell? ⟨q, 8, none⟩ = some (.int .u64 f.fv) := h.blk.at_ 8
  have c9 : w.cell? ⟨q, 9, none⟩ = some (.int .i64 f.fa) := h.blk.at_ 9
  have c10 : w.cell? ⟨q, 10, none⟩ = some (.int .u64 (maskS f.fb)) := h.blk.at_ 10
  clear h
  go_enter Tryz.func192, Tryz.ntmps192
  go_wp2
  go_ret
  exact ⟨rfl, ⟨Blk.made w _ _, by decide, by decide, by decide, by decide⟩, below_one w _⟩
theorem meth_copy_clearer (q : Nat) (w : World) : (method 366 141 (.pointer (some ⟨q, 0, none⟩)) "Copy").run Tryz.prog w = .ok (192, .pointer (some ⟨q, 0, none⟩)) w := by kernel_rfl
theorem ahead_copy_clearer (q : Nat) (w : World) : (nilAhead 366 141 (.pointer (some ⟨q, 0, none⟩)) "Copy").run Tryz.prog w = .ok (some false) w := by kernel_rfl
theorem odd_clearer : Odd 146 := ⟨by decide, by decide, by decide, by decide, by decide, by decide, by decide, by decide⟩

end Go.Proofs.YtllllbepnnpeeaaGreat

namespace Go.Proofs.YtllllbepnnpeeaaGreat
open Go Go.RowKit Go.Shelf

theorem cas_fn (x v u : Int) (a b : Addr) (w : World) (h : w.cell? a = some (.int .u64 v)) (h' : w.cell? b = some (.int .u64 u)) : Calls Tryz.prog 210 #[.int .u64 x, .pointer (some a), .pointer (some b)] w fun e w' => e = .returned (.int .u64 (if x = v then u else x)) ∧ w = w' := by
  by_cases hx : x = v
  · subst hx
    go_enter Tryz.func210, Tryz.ntmps210
    go_wp2
    go_ret
    exact ⟨by simp, rfl⟩
  · have hb : (x == v) = false := by simpa using hx
    go_enter Tryz.func210, Tryz.ntmps210
    go_wp2
    go_ret
    exact ⟨by simp, rfl⟩

theorem cas_any {w : World} {p g cap : Nat} {s : St} (h : Mem w p g cap s) (i v u : Int) :
    Calls Tryz.prog 209 #[.pointer (some ⟨p, 0, none⟩), .int .i64 i, .int .u64 v, .int .u64 u] w fun e w' => e = .returned (.bool (s.hit i v)) ∧ Mem w' p g cap (s.go 3 i fun x => if x = v then u else x) ∧ Fr [p, g] w w' := by
  have hc : ((w.alloc (.cells #[.int .u64 v] 53)).alloc (.cells #[.int .u64 u] 53)).cell? ⟨w.heap.size, 0, none⟩ = some (.int .u64 v) := ((Blk.made w 53 #[.int .u64 v]).of_same (Below.heap_alloc _ _ _ (by simp))).at_ 0
  have hd : ((w.alloc (.cells #[.int .u64 v] 53)).alloc (.cells #[.int .u64 u] 53)).cell? ⟨w.heap.size + 1, 0, none⟩ = some (.int .u64 u) := by
    simp
  have H := access_any ((h.alloc (.cells #[.int .u64 v] 53)).alloc (.cells #[.int .u64 u] 53)) 3 i 210 #[.pointer (some ⟨w.heap.size, 0, none⟩), .pointer (some ⟨w.heap.size + 1, 0, none⟩)] _ (enters_of Tryz.func210 (by kernel_rfl) rfl) (fun x => cas_fn x v u _ _ _ hc hd)
  unfold St.hit
  by_cases hi : s.has i
  · simp only [decide_eq_true hi] at H ⊢
    generalize s.old i = x at *
    clear hd hi
    go_enter Tryz.func209, Tryz.ntmps209
    go_wp2_with fail
    refine H.mono ?_
    rintro e w' ⟨rfl, hm, hfr⟩
    have hc' : w'.cell? ⟨w.heap.size, 0, none⟩ = some (.int .u64 v) := by
      rw [World.cell?_of_block (hfr.block w.heap.size (by simp; omega) (by have := h.blk.lt; have := h.row.lt; simp; omega))]
      exact hc
    clear hc H
    go_wp2
    go_ret
    exact ⟨by simp, hm, (((Fr.refl _ _).alloc _).alloc _).trans hfr⟩
  · simp only [decide_eq_false hi] at H ⊢
    generalize s.old i = x at *
    clear hd hi hc
    go_enter Tryz.func209, Tryz.ntmps209
    go_wp2_with fail
    refine H.mono ?_
    rintro e w' ⟨rfl, hm, hfr⟩
    clear H
    go_wp2
    go_ret
    exact ⟨by simp, hm, (((Fr.refl _ _).alloc _).alloc _).trans hfr⟩
end Go.Proofs.YtllllbepnnpeeaaGreat
