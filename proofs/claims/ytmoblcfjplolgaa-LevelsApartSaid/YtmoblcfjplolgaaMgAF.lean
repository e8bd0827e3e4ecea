/-
  The reference's Queue, task and Cells. (Written by wip/gen_lay2.py.)
  The reference's Cells.
  The reference's task, State, Level, Join, Waits, Since and Cells. (Written by wip/gen_lay3.py.)
  Package layout: a layout's numbers, Cells. (Written by wip/gen_lya.py.)
  Package layout: the contracts of its methods. (Written by wip/gen_lya.py.)
-/
import Derived.Test.YtmoblcfjplolgaaMgAE
import Derived.Deep.CutRange
import Derived.Deep.RegionHeld3
import Derived.Lib.Hide
namespace Go.Proofs.Ytmoblcfjplolgaa
open Go Go.RowKit

/-- What Queue gives. -/
def GivesQ (q : Int × Int × Int × Int) (w : World) (e : Ending) (w' : World) : Prop := e = .returned (.agg (qcells q.1 q.2.1 q.2.2.1 q.2.2.2)) ∧ Below w.heap.size w w'
theorem Blk.put4 {w : World} {g : Nat} {t : TypeId} {a0 a1 a2 a3 : Value} (h : Blk w g t #[a0, a1, a2, a3]) (v0 v1 v2 v3 : Value) : Blk ((((w.setCell ⟨g, 0, none⟩ v0).setCell ⟨g, 1, none⟩ v1).setCell ⟨g, 2, none⟩ v2).setCell ⟨g, 3, none⟩ v3) g t #[v0, v1, v2, v3] := by
  have := ((((h.put 0 v0).put 1 v1).put 2 v2).put 3 v3)
  simpa only [List.setIfInBounds_toArray, List.set_cons_zero, List.set_cons_succ] using this

section
variable {w : World} {c : Cfg} {pa sa : Option Addr} {pn pc sn sc : Nat}
set_option maxHeartbeats 2000000 in
theorem queue_no (q l : Int) (hq : ¬ qIn c q l) : Calls Try.prog 14 #[cv c pa pn pc sa sn sc, .int .i64 q, .int .i64 l] w (GivesQ (rQueue c q l) w) := by
  unfold rQueue
  rw [if_neg hq]
  have hw1 : (w.alloc (cbox c pa pn pc sa sn sc)).heap.size = w.heap.size + 1 := by simp
  have B1 := (below_one w (cbox c pa pn pc sa sn sc)).alloc (by simp) (.cells (qcells 0 0 0 0) 53)
  have hR := Blk.made (w.alloc (cbox c pa pn pc sa sn sc)) 53 (qcells 0 0 0 0)
  rw [hw1] at hR
  have HR := Lib.hid hR
  have HB := Lib.hid B1
  have hX := (Blk.made w 30 (cc c pa pn pc sa sn sc)).alloc (.cells (qcells 0 0 0 0) 53)
  obtain ⟨e0, e1, e2, e3, e4, e5, e6, e7, e8, e9, e10⟩ := eleven hX
  have r0 := hR.at_ 0
  have r1 := hR.at_ 1
  have r2 := hR.at_ 2
  have r3 := hR.at_ 3
  have f0 := hR.free 0
  have f1 := hR.free 1
  have f2 := hR.free 2
  have f3 := hR.free 3
  clear hw1 B1 hR hX
  have hcase : q < 0 ∨ (0 ≤ q ∧ c.wo ≤ q) ∨ (0 ≤ q ∧ q < c.wo ∧ l < 0) ∨ (0 ≤ q ∧ q < c.wo ∧ 0 ≤ l ∧ c.le ≤ l) := by unfold qIn at hq; omega
  clear hq
  rcases hcase with h1 | ⟨h0, h1⟩ | ⟨h0, h1, h2⟩ | ⟨h0, h1, h2, h3⟩
  all_goals
    go_enter Try.func14, Try.ntmps14
    go_upto_region 1 with fail
    generalize (w.alloc (cbox c pa pn pc sa sn sc)).alloc (.cells (qcells 0 0 0 0) 53) = W at *
    go_wp2
    refine bodyPost_ret (results_cell_row (P := Try.prog) Try.results14 _ _ (w.heap.size + 1) 53 _ (0, 0) _ rfl (HR.out.put4 (.int .i64 (-1)) (.int .i64 (-1)) (.int .i64 (-1)) (.int .i64 0)) Try.underlying53 rfl (by kernel_rfl)) rfl ?_
    exact ⟨rfl, (((HB.out.setCell (by simp) _).setCell (by simp) _).setCell (by simp) _).setCell (by simp) _⟩
set_option maxHeartbeats 4000000 in
theorem queue_yes (hin : CfgIn c) (q l : Int) (hq : qIn c q l) : Calls Try.prog 14 #[cv c pa pn pc sa sn sc, .int .i64 q, .int .i64 l] w (GivesQ (rQueue c q l) w) := by
  unfold rQueue
  rw [if_pos hq]
  have hw1 : (w.alloc (cbox c pa pn pc sa sn sc)).heap.size = w.heap.size + 1 := by simp
  have B1 := (below_one w (cbox c pa pn pc sa sn sc)).alloc (by simp) (.cells (qcells 0 0 0 0) 53)
  have hX := (Blk.made w 30 (cc c pa pn pc sa sn sc)).alloc (.cells (qcells 0 0 0 0) 53)
  have hR := Blk.made (w.alloc (cbox c pa pn pc sa sn sc)) 53 (qcells 0 0 0 0)
  rw [hw1] at hR
  have HR := Lib.hid hR
  have HB := Lib.hid B1
  have HX := Lib.hid hX
  obtain ⟨e0, e1, e2, e3, e4, e5, e6, e7, e8, e9, e10⟩ := eleven hX
  have hd := hin.deques
  have ha := hin.at_ hq
  have hal := hin.all
  obtain ⟨q0, q1, q2, q3⟩ := hq
  have hde := hin.de
  have hle := hin.le
  have hwo := hin.wo
  obtain ⟨P0, hP0⟩ : ∃ p, q * c.le = p := ⟨_, rfl⟩
  obtain ⟨P1, hP1⟩ : ∃ p, (P0 + l) * (2 + c.de) = p := ⟨_, rfl⟩
  have hAt : rAt c q l = rDeques c + P1 := by unfold rAt; rw [hP0, hP1]
  rw [hAt]
  rw [hP0, hP1] at ha
  obtain ⟨D, hD⟩ : ∃ d, rDeques c = d := ⟨_, rfl⟩
  rw [hD] at hd ⊢
  have HD := Lib.hid hD
  have s0 : IntKind.i64.wrap (q * c.le) = P0 := by rw [hP0]; exact IntWalk.i64_in _ (by omega)
  have s1 : IntKind.i64.wrap (P0 + l) = P0 + l := IntWalk.i64_in _ (by omega)
  have s2 : IntKind.i64.wrap (2 + c.de) = 2 + c.de := IntWalk.i64_in _ (by omega)
  have s3 : IntKind.i64.wrap ((P0 + l) * (2 + c.de)) = P1 := by rw [hP1]; exact IntWalk.i64_in _ (by omega)
  have s4 : IntKind.i64.wrap (D + P1) = D + P1 := IntWalk.i64_in _ (by omega)
  have S0 := Lib.hid s0
  have S1 := Lib.hid s1
  have S2 := Lib.hid s2
  have S3 := Lib.hid s3
  have S4 := Lib.hid s4
  clear hw1 B1 hR hX hP0 hP1 hAt hD s0 s1 s2 s3 s4
  go_enter Try.func14, Try.ntmps14
  go_wp2_with fail
  generalize (w.alloc (cbox c pa pn pc sa sn sc)).alloc (.cells (qcells 0 0 0 0) 53) = W at *
  have XD := Lib.hid (show Blk W.drew w.heap.size 30 (cc c pa pn pc sa sn sc) from HX.out)
  clear e0 e1 e2 e3 e4 e5 e6 e7 e8 e9 e10
  obtain ⟨e0, e1, e2, e3, e4, e5, e6, e7, e8, e9, e10⟩ := eleven XD.out
  have s0 := S0.out
  have s1 := S1.out
  have s2 := S2.out
  have s3 := S3.out
  have s4 := S4.out
  go_region_held3 (fun w' => w'.cell? ⟨w.heap.size, 0, none⟩ = some (.int .i64 c.wo) ∧ w'.cell? ⟨w.heap.size, 1, none⟩ = some (.int .i64 c.le) ∧ w'.cell? ⟨w.heap.size, 2, none⟩ = some (.int .i64 c.cl) ∧ w'.cell? ⟨w.heap.size, 3, none⟩ = some (.int .i64 c.ta) ∧ w'.cell? ⟨w.heap.size, 4, none⟩ = some (.int .i64 c.de) ∧ w'.cell? ⟨w.heap.size, 5, none⟩ = some (.int .i64 c.he) ∧ w'.cell? ⟨w.heap.size, 6, none⟩ = some (.int .i64 c.ba) ∧ w'.cell? ⟨w.heap.size, 7, none⟩ = some (.int .i64 c.ag) ∧ w'.cell? ⟨w.heap.size, 8, none⟩ = some (.int .i64 c.pa) ∧ w'.cell? ⟨w.heap.size, 9, none⟩ = some (.slice pa pn pc) ∧ w'.cell? ⟨w.heap.size, 10, none⟩ = some (.slice sa sn sc)) (go_keep)
    ((go_at_call 28
      refine (deques_any hin).mono ?_
      rintro e w1 ⟨rfl, b1⟩
      rw [HD.out]
      obtain ⟨k0, k1, k2, k3, k4, k5, k6, k7, k8, k9, k10⟩ := eleven (XD.out.below b1)
      have BB := Lib.hid b1
      clear b1))
  clear s0 s1 s2 s3 s4
  have HR2 := Lib.hid ((show Blk W.drew (w.heap.size + 1) 53 (qcells 0 0 0 0) from HR.out).below BB.out)
  have r0 := HR2.out.at_ 0
  have r1 := HR2.out.at_ 1
  have r2 := HR2.out.at_ 2
  have r3 := HR2.out.at_ 3
  have f0 := HR2.out.free 0
  have f1 := HR2.out.free 1
  have f2 := HR2.out.free 2
  have f3 := HR2.out.free 3
  have HB2 := Lib.hid ((below_drew HB.out).trans (BB.out.mono HB.out.size))
  clear BB HB HR
  go_wp2
  refine bodyPost_ret (results_cell_row (P := Try.prog) Try.results14 _ _ (w.heap.size + 1) 53 _ (0, 0) _ rfl (HR2.out.put4 (.int .i64 (D + P1)) (.int .i64 (D + P1 + 1)) (.int .i64 (D + P1 + 2)) (.int .i64 c.de)) Try.underlying53 rfl (by kernel_rfl)) rfl ?_
  exact ⟨rfl, (((HB2.out.setCell (by simp) _).setCell (by simp) _).setCell (by simp) _).setCell (by simp) _⟩
theorem queue_any (hin : CfgIn c) (q l : Int) : Calls Try.prog 14 #[cv c pa pn pc sa sn sc, .int .i64 q, .int .i64 l] w (GivesQ (rQueue c q l) w) := by
  by_cases hq : qIn c q l
  · exact queue_yes hin q l hq
  · exact queue_no q l hq
end
end Go.Proofs.Ytmoblcfjplolgaa

namespace Go.Proofs.Ytmoblcfjplolgaa
open Go Go.RowKit

section
variable {w : World} {c : Cfg} {pa sa : Option Addr} {pn pc sn sc : Nat}
end
end Go.Proofs.Ytmoblcfjplolgaa

namespace Go.Proofs.Ytmoblcfjplolgaa
open Go Go.RowKit

section
variable {w : World} {c : Cfg} {pa sa : Option Addr} {pn pc sn sc : Nat}
end
end Go.Proofs.Ytmoblcfjplolgaa

namespace Go.Proofs.Ytmoblcfjplolgaa
open Go Go.RowKit

/-- The numbers of a layout. -/
abbrev lcells (c : Cfg) : Array Value := #[.int .i64 4, .int .i64 (4 + c.he), .int .i64 (4 + c.he + c.cl), .int .i64 (4 + c.he + c.cl + c.wo), .int .i64 (rDeques c), .int .i64 (rDeques c + rAll c), .int .i64 (rCells c), .int .i64 c.le, .int .i64 c.de]
abbrev lv (c : Cfg) : Value := .agg (lcells c)
abbrev lbox (c : Cfg) : Obj := .cells (lcells c) 34

section
variable {w : World} {c : Cfg}
theorem lcells_any : Calls Try.prog 22 #[lv c] w (GivesI (rCells c) w) := by
  have B1 := Lib.hid (below_one w (lbox c))
  go_enter Try.func22, Try.ntmps22
  go_wp2
  go_ret
  exact ⟨rfl, B1.out⟩
theorem lqueuecells_any (v0 v1 v2 v3 v4 v5 v6 v7 d : Int) (h : 1 ≤ d ∧ d ≤ 64) : Calls Try.prog 32 #[.agg #[.int .i64 v0, .int .i64 v1, .int .i64 v2, .int .i64 v3, .int .i64 v4, .int .i64 v5, .int .i64 v6, .int .i64 v7, .int .i64 d]] w (GivesI (2 + d) w) := by
  have B1 := Lib.hid (below_one w (.cells #[.int .i64 v0, .int .i64 v1, .int .i64 v2, .int .i64 v3, .int .i64 v4, .int .i64 v5, .int .i64 v6, .int .i64 v7, .int .i64 d] 34))
  go_enter Try.func32, Try.ntmps32
  go_wp2
  go_ret
  exact ⟨rfl, B1.out⟩
end
end Go.Proofs.Ytmoblcfjplolgaa

namespace Go.Proofs.Ytmoblcfjplolgaa
open Go Go.RowKit

theorem below_any (i n : Int) (w : World) : Calls Try.prog 84 #[.int .i64 i, .int .i64 n] w fun e w' => e = .returned (.bool (decide (0 ≤ i ∧ i < n))) ∧ w = w' := by
  by_cases h0 : 0 ≤ i
  · by_cases h1 : i < n
    · rw [show decide (0 ≤ i ∧ i < n) = true from decide_eq_true ⟨h0, h1⟩]
      go_enter Try.func84, Try.ntmps84
      go_wp2
      go_ret
      exact ⟨rfl, rfl⟩
    · rw [show decide (0 ≤ i ∧ i < n) = false from decide_eq_false (fun h => h1 h.2)]
      go_enter Try.func84, Try.ntmps84
      go_wp2
      go_ret
      exact ⟨rfl, rfl⟩
  · rw [show decide (0 ≤ i ∧ i < n) = false from decide_eq_false (fun h => h0 h.1)]
    go_enter Try.func84, Try.ntmps84
    go_wp2
    go_ret
    exact ⟨rfl, rfl⟩

theorem single_any (first end_ i : Int) (h0 : 0 ≤ first) (h1 : first ≤ end_) (h2 : end_ ≤ 100000) (w : World) :
    Calls Try.prog 85 #[.int .i64 first, .int .i64 end_, .int .i64 i] w fun e w' => e = .returned (.int .i64 (ixs first i (end_ - first) 1)) ∧ w = w' := by
  unfold ixs
  by_cases hi : 0 ≤ i ∧ i < end_ - first
  · rw [if_neg (by omega), Int.mul_one]
    obtain ⟨i0, i1⟩ := hi
    go_enter Try.func85, Try.ntmps85
    go_wp2_with fail
    (with_reducible refine (below_any _ _ _).mono ?_)
    rintro e w1 ⟨rfl, rfl⟩
    rw [show decide (0 ≤ i ∧ i < end_ - first) = true from decide_eq_true ⟨i0, i1⟩]
    go_wp2
    go_ret
    exact ⟨rfl, rfl⟩
  · rw [if_pos (by omega)]
    have hd : decide (0 ≤ i ∧ i < end_ - first) = false := decide_eq_false hi
    clear hi
    go_enter Try.func85, Try.ntmps85
    go_wp2_with fail
    (with_reducible refine (below_any _ _ _).mono ?_)
    rintro e w1 ⟨rfl, rfl⟩
    rw [hd]
    go_wp2
    go_ret
    exact ⟨rfl, rfl⟩

section
variable {w : World} {c : Cfg}
theorem lbitmap_any (h : CfgIn c) (i : Int) : Calls Try.prog 83 #[lv c, .int .i64 i] w (GivesI (rBitmap c i) w) := by
  have B1 := Lib.hid (below_one w (lbox c))
  have h1 := h.he
  have h2 := h.cl
  have h3 := h.wo
  have hd : rDeques c = 4 + c.he + c.cl + 2 * c.wo := rfl
  have hn : 4 + c.he + c.cl + 2 * c.wo - (4 + c.he + c.cl + c.wo) = c.wo := by omega
  have HN := Lib.hid hn
  clear hn
  go_enter Try.func83, Try.ntmps83
  go_wp2_with fail
  (with_reducible refine (single_any _ _ _ ?a1 ?a2 ?a3 _).mono ?_)
  case a1 => omega
  case a2 => omega
  case a3 => omega
  rintro e w1 ⟨rfl, rfl⟩
  rw [HN.out]
  clear hd
  go_wp2
  go_ret
  exact ⟨rfl, B1.out⟩
end
end Go.Proofs.Ytmoblcfjplolgaa
