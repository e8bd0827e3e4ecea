/-
  The cells of a deque, as a value's cells. No function and no type is named.
  The reference's layout: index, and what goes through it.
  The reference's Queue, task and Cells. (Written by wip/gen_lay2.py.)
  The reference's task, State, Level, Join, Waits, Since and Cells. (Written by wip/gen_lay3.py.)
  Package layout: the contracts of its methods. (Written by wip/gen_lya.py.)
-/
import Derived.Test.YtheimjcgpbmecaaGreatMgAA
import Derived.Test.YtheimjcgpbmecaaGreatMgAN
import Derived.Deep.CutRange
import Derived.Test.YtheimjcgpbmecaaGreatMgAZ
namespace Go.Proofs.YtheimjcgpbmecaaGreat
open Go Go.RowKit
abbrev qcells (t b r k : Int) : Array Value := #[.int .i64 t, .int .i64 b, .int .i64 r, .int .i64 k]
end Go.Proofs.YtheimjcgpbmecaaGreat

namespace Go.Proofs.YtheimjcgpbmecaaGreat
open Go Go.RowKit

theorem index_any {w : World} (first i n size : Int) (h0 : 0 ≤ first) (h1 : first ≤ 1000000) (hn : n ≤ 1000) (hs : size = 1 ∨ size = 5) :
    Calls Tryz.prog 131 #[.int .i64 first, .int .i64 i, .int .i64 n, .int .i64 size] w fun e w' => e = .returned (.int .i64 (ixs first i n size)) ∧ w = w' := by
  unfold ixs
  by_cases hi : i < 0
  · rw [if_pos (Or.inl hi)]
    go_enter Tryz.func131, Tryz.ntmps131
    go_wp2
    go_ret
    exact ⟨rfl, rfl⟩
  · by_cases hni : n ≤ i
    · rw [if_pos (Or.inr hni)]
      go_enter Tryz.func131, Tryz.ntmps131
      go_wp2
      go_ret
      exact ⟨rfl, rfl⟩
    · rw [if_neg (by omega)]
      rcases hs with rfl | rfl
      · go_enter Tryz.func131, Tryz.ntmps131
        go_wp2
        go_ret
        exact ⟨rfl, rfl⟩
      · go_enter Tryz.func131, Tryz.ntmps131
        go_wp2
        go_ret
        exact ⟨rfl, rfl⟩
section
variable {w : World} {c : Cfg} {pa sa : Option Addr} {pn pc sn sc : Nat}
theorem slot_any (h : CfgIn c) (i : Int) : Calls Tryz.prog 141 #[cv c pa pn pc sa sn sc, .int .i64 i] w (GivesI (rSlot c i) w) := by
  have hh := h.he
  have B1 := Lib.hid (below_one w (cbox c pa pn pc sa sn sc))
  go_enter Tryz.func141, Tryz.ntmps141
  go_wp2_with fail
  (with_reducible refine (index_any _ _ _ _ (by omega) (by omega) (by omega) (Or.inl rfl)).mono ?_)
  rintro e w1 ⟨rfl, rfl⟩
  go_wp2
  go_ret
  exact ⟨rfl, B1.out⟩
theorem sleepers_any (h : CfgIn c) (i : Int) : Calls Tryz.prog 151 #[cv c pa pn pc sa sn sc, .int .i64 i] w (GivesI (rSleepers c i) w) := by
  have h1 := h.he
  have h2 := h.cl
  have B1 := Lib.hid (below_one w (cbox c pa pn pc sa sn sc))
  go_enter Tryz.func151, Tryz.ntmps151
  go_wp2_with fail
  (with_reducible refine (index_any _ _ _ _ ?h1 ?h2 ?h3 (Or.inl rfl)).mono ?_)
  case h1 => omega
  case h2 => omega
  case h3 => omega
  rintro e w1 ⟨rfl, rfl⟩
  go_wp2
  go_ret
  exact ⟨rfl, B1.out⟩
theorem epoch_any (h : CfgIn c) (i : Int) : Calls Tryz.prog 152 #[cv c pa pn pc sa sn sc, .int .i64 i] w (GivesI (rEpoch c i) w) := by
  have h1 := h.he
  have h2 := h.cl
  have h3 := h.wo
  have B1 := Lib.hid (below_one w (cbox c pa pn pc sa sn sc))
  go_enter Tryz.func152, Tryz.ntmps152
  go_wp2_with fail
  (with_reducible refine (index_any _ _ _ _ ?h1 ?h2 ?h3 (Or.inl rfl)).mono ?_)
  case h1 => omega
  case h2 => omega
  case h3 => omega
  rintro e w1 ⟨rfl, rfl⟩
  go_wp2
  go_ret
  exact ⟨rfl, B1.out⟩
theorem bitmap_any (h : CfgIn c) (i : Int) : Calls Tryz.prog 91 #[cv c pa pn pc sa sn sc, .int .i64 i] w (GivesI (rBitmap c i) w) := by
  have h1 := h.he
  have h2 := h.cl
  have h3 := h.wo
  have B1 := Lib.hid (below_one w (cbox c pa pn pc sa sn sc))
  go_enter Tryz.func91, Tryz.ntmps91
  go_wp2_with fail
  (with_reducible refine (index_any _ _ _ _ ?h1 ?h2 ?h3 (Or.inl rfl)).mono ?_)
  case h1 => omega
  case h2 => omega
  case h3 => omega
  rintro e w1 ⟨rfl, rfl⟩
  go_wp2
  go_ret
  exact ⟨rfl, B1.out⟩
end
end Go.Proofs.YtheimjcgpbmecaaGreat

namespace Go.Proofs.YtheimjcgpbmecaaGreat
open Go Go.RowKit

/-- What Queue gives. -/
def GivesQ (q : Int × Int × Int × Int) (w : World) (e : Ending) (w' : World) : Prop := e = .returned (.agg (qcells q.1 q.2.1 q.2.2.1 q.2.2.2)) ∧ Below w.heap.size w w'
theorem Blk.put4 {w : World} {g : Nat} {t : TypeId} {a0 a1 a2 a3 : Value} (h : Blk w g t #[a0, a1, a2, a3]) (v0 v1 v2 v3 : Value) : Blk ((((w.setCell ⟨g, 0, none⟩ v0).setCell ⟨g, 1, none⟩ v1).setCell ⟨g, 2, none⟩ v2).setCell ⟨g, 3, none⟩ v3) g t #[v0, v1, v2, v3] := by
  have := ((((h.put 0 v0).put 1 v1).put 2 v2).put 3 v3)
  simpa only [List.setIfInBounds_toArray, List.set_cons_zero, List.set_cons_succ] using this

section
variable {w : World} {c : Cfg} {pa sa : Option Addr} {pn pc sn sc : Nat}
set_option maxHeartbeats 2000000 in
theorem queue_no (q l : Int) (hq : ¬ qIn c q l) : Calls Tryz.prog 90 #[cv c pa pn pc sa sn sc, .int .i64 q, .int .i64 l] w (GivesQ (rQueue c q l) w) := by
  unfold rQueue
  rw [if_neg hq]
  have hw1 : (w.alloc (cbox c pa pn pc sa sn sc)).heap.size = w.heap.size + 1 := by simp
  have B1 := (below_one w (cbox c pa pn pc sa sn sc)).alloc (by simp) (.cells (qcells 0 0 0 0) 77)
  have hR := Blk.made (w.alloc (cbox c pa pn pc sa sn sc)) 77 (qcells 0 0 0 0)
  rw [hw1] at hR
  have HR := Lib.hid hR
  have HB := Lib.hid B1
  have hX := (Blk.made w 29 (cc c pa pn pc sa sn sc)).alloc (.cells (qcells 0 0 0 0) 77)
  obtain ⟨e0, e1, e2, e3, e4, e5, e6, e7, e8, e9, e10⟩ := eleven hX
  have r0 := hR.at_ 0
  have r1 := hR.at_ 1
  have r2 := hR.at_ 2
  have r3 := hR.at_ 3
  have f0 := hR.free 0
  have f1 := hR.free 1
  have f2 := hR.free 2
  have f3 := hR.free 3
  clear hw1 B1 hR hX
  have hcase : q < 0 ∨ (0 ≤ q ∧ c.wo ≤ q) ∨ (0 ≤ q ∧ q < c.wo ∧ l < 0) ∨ (0 ≤ q ∧ q < c.wo ∧ 0 ≤ l ∧ c.le ≤ l) := by unfold qIn at hq; omega
  clear hq
  rcases hcase with h1 | ⟨h0, h1⟩ | ⟨h0, h1, h2⟩ | ⟨h0, h1, h2, h3⟩
  all_goals
    go_enter Tryz.func90, Tryz.ntmps90
    go_upto_region 1 with fail
    generalize (w.alloc (cbox c pa pn pc sa sn sc)).alloc (.cells (qcells 0 0 0 0) 77) = W at *
    go_wp2
    refine bodyPost_ret (results_cell_row (P := Tryz.prog) Tryz.results90 _ _ (w.heap.size + 1) 77 _ (0, 0) _ rfl (HR.out.put4 (.int .i64 (-1)) (.int .i64 (-1)) (.int .i64 (-1)) (.int .i64 0)) Tryz.underlying77 rfl (by kernel_rfl)) rfl ?_
    exact ⟨rfl, (((HB.out.setCell (by simp) _).setCell (by simp) _).setCell (by simp) _).setCell (by simp) _⟩
set_option maxHeartbeats 4000000 in
theorem queue_yes (hin : CfgIn c) (q l : Int) (hq : qIn c q l) : Calls Tryz.prog 90 #[cv c pa pn pc sa sn sc, .int .i64 q, .int .i64 l] w (GivesQ (rQueue c q l) w) := by
  unfold rQueue
  rw [if_pos hq]
  have hw1 : (w.alloc (cbox c pa pn pc sa sn sc)).heap.size = w.heap.size + 1 := by simp
  have B1 := (below_one w (cbox c pa pn pc sa sn sc)).alloc (by simp) (.cells (qcells 0 0 0 0) 77)
  have hX := (Blk.made w 29 (cc c pa pn pc sa sn sc)).alloc (.cells (qcells 0 0 0 0) 77)
  have hR := Blk.made (w.alloc (cbox c pa pn pc sa sn sc)) 77 (qcells 0 0 0 0)
  rw [hw1] at hR
  have HR := Lib.hid hR
  have HB := Lib.hid B1
  have HX := Lib.hid hX
  obtain ⟨e0, e1, e2, e3, e4, e5, e6, e7, e8, e9, e10⟩ := eleven hX
  have hd := hin.deques
  have ha := hin.at_ hq
  have hal := hin.all
  obtain ⟨q0, q1, q2, q3⟩ := hq
  have hde := hin.de
  have hle := hin.le
  have hwo := hin.wo
  obtain ⟨P0, hP0⟩ : ∃ p, q * c.le = p := ⟨_, rfl⟩
  obtain ⟨P1, hP1⟩ : ∃ p, (P0 + l) * (2 + c.de) = p := ⟨_, rfl⟩
  have hAt : rAt c q l = rDeques c + P1 := by unfold rAt; rw [hP0, hP1]
  rw [hAt]
  rw [hP0, hP1] at ha
  obtain ⟨D, hD⟩ : ∃ d, rDeques c = d := ⟨_, rfl⟩
  rw [hD] at hd ⊢
  have HD := Lib.hid hD
  have s0 : IntKind.i64.wrap (q * c.le) = P0 := by rw [hP0]; exact IntWalk.i64_in _ (by omega)
  have s1 : IntKind.i64.wrap (P0 + l) = P0 + l := IntWalk.i64_in _ (by omega)
  have s2 : IntKind.i64.wrap (2 + c.de) = 2 + c.de := IntWalk.i64_in _ (by omega)
  have s3 : IntKind.i64.wrap ((P0 + l) * (2 + c.de)) = P1 := by rw [hP1]; exact IntWalk.i64_in _ (by omega)
  have s4 : IntKind.i64.wrap (D + P1) = D + P1 := IntWalk.i64_in _ (by omega)
  have S0 := Lib.hid s0
  have S1 := Lib.hid s1
  have S2 := Lib.hid s2
  have S3 := Lib.hid s3
  have S4 := Lib.hid s4
  clear hw1 B1 hR hX hP0 hP1 hAt hD s0 s1 s2 s3 s4
  go_enter Tryz.func90, Tryz.ntmps90
  go_wp2_with fail
  generalize (w.alloc (cbox c pa pn pc sa sn sc)).alloc (.cells (qcells 0 0 0 0) 77) = W at *
  have XD := Lib.hid (show Blk W.drew w.heap.size 29 (cc c pa pn pc sa sn sc) from HX.out)
  clear e0 e1 e2 e3 e4 e5 e6 e7 e8 e9 e10
  obtain ⟨e0, e1, e2, e3, e4, e5, e6, e7, e8, e9, e10⟩ := eleven XD.out
  have s0 := S0.out
  have s1 := S1.out
  have s2 := S2.out
  have s3 := S3.out
  have s4 := S4.out
  go_region_held3 (fun w' => w'.cell? ⟨w.heap.size, 0, none⟩ = some (.int .i64 c.wo) ∧ w'.cell? ⟨w.heap.size, 1, none⟩ = some (.int .i64 c.le) ∧ w'.cell? ⟨w.heap.size, 2, none⟩ = some (.int .i64 c.cl) ∧ w'.cell? ⟨w.heap.size, 3, none⟩ = some (.int .i64 c.ta) ∧ w'.cell? ⟨w.heap.size, 4, none⟩ = some (.int .i64 c.de) ∧ w'.cell? ⟨w.heap.size, 5, none⟩ = some (.int .i64 c.he) ∧ w'.cell? ⟨w.heap.size, 6, none⟩ = some (.int .i64 c.ba) ∧ w'.cell? ⟨w.heap.size, 7, none⟩ = some (.int .i64 c.ag) ∧ w'.cell? ⟨w.heap.size, 8, none⟩ = some (.int .i64 c.pa) ∧ w'.cell? ⟨w.heap.size, 9, none⟩ = some (.slice pa pn pc) ∧ w'.cell? ⟨w.heap.size, 10, none⟩ = some (.slice sa sn sc)) (go_keep)
    ((go_at_call 85
      refine (deques_any hin).mono ?_
      rintro e w1 ⟨rfl, b1⟩
      rw [HD.out]
      obtain ⟨k0, k1, k2, k3, k4, k5, k6, k7, k8, k9, k10⟩ := eleven (XD.out.below b1)
      have BB := Lib.hid b1
      clear b1))
  clear s0 s1 s2 s3 s4
  have HR2 := Lib.hid ((show Blk W.drew (w.heap.size + 1) 77 (qcells 0 0 0 0) from HR.out).below BB.out)
  have r0 := HR2.out.at_ 0
  have r1 := HR2.out.at_ 1
  have r2 := HR2.out.at_ 2
  have r3 := HR2.out.at_ 3
  have f0 := HR2.out.free 0
  have f1 := HR2.out.free 1
  have f2 := HR2.out.free 2
  have f3 := HR2.out.free 3
  have HB2 := Lib.hid ((below_drew HB.out).trans (BB.out.mono HB.out.size))
  clear BB HB HR
  go_wp2
  refine bodyPost_ret (results_cell_row (P := Tryz.prog) Tryz.results90 _ _ (w.heap.size + 1) 77 _ (0, 0) _ rfl (HR2.out.put4 (.int .i64 (D + P1)) (.int .i64 (D + P1 + 1)) (.int .i64 (D + P1 + 2)) (.int .i64 c.de)) Tryz.underlying77 rfl (by kernel_rfl)) rfl ?_
  exact ⟨rfl, (((HB2.out.setCell (by simp) _).setCell (by simp) _).setCell (by simp) _).setCell (by simp) _⟩
theorem queue_any (hin : CfgIn c) (q l : Int) : Calls Tryz.prog 90 #[cv c pa pn pc sa sn sc, .int .i64 q, .int .i64 l] w (GivesQ (rQueue c q l) w) := by
  by_cases hq : qIn c q l
  · exact queue_yes hin q l hq
  · exact queue_no q l hq
end
end Go.Proofs.YtheimjcgpbmecaaGreat

namespace Go.Proofs.YtheimjcgpbmecaaGreat
open Go Go.RowKit

section
variable {w : World} {c : Cfg} {pa sa : Option Addr} {pn pc sn sc : Nat}
set_option maxHeartbeats 4000000 in
theorem task_any (hin : CfgIn c) (t k : Int) (hk : 0 ≤ k ∧ k ≤ 4) : Calls Tryz.prog 163 #[cv c pa pn pc sa sn sc, .int .i64 t, .int .i64 k] w (GivesI (rTask c t k) w) := by
  have HB := Lib.hid (below_one w (cbox c pa pn pc sa sn sc))
  have hX := Blk.made w 29 (cc c pa pn pc sa sn sc)
  have HX := Lib.hid hX
  obtain ⟨e0, e1, e2, e3, e4, e5, e6, e7, e8, e9, e10⟩ := eleven hX
  have hd := hin.deques
  have hal := hin.all
  have hwl := hin.wl
  have hde := hin.de
  have hta := hin.ta
  obtain ⟨R, hR⟩ : ∃ r, rTask c t k = r := ⟨_, rfl⟩
  rw [hR]
  unfold rTask at hR
  obtain ⟨P0, hP0⟩ : ∃ p, c.wo * c.le = p := ⟨_, rfl⟩
  obtain ⟨P1, hP1⟩ : ∃ p, rAll c = p := ⟨_, rfl⟩
  obtain ⟨D, hD⟩ : ∃ d, rDeques c = d := ⟨_, rfl⟩
  have hP2 : P0 * (2 + c.de) = P1 := by rw [← hP1, ← hP0]; rfl
  rw [hD] at hd hR
  rw [hP1] at hal hR
  rw [hP0] at hwl
  have HD := Lib.hid hD
  have s0 : IntKind.i64.wrap (c.wo * c.le) = P0 := by rw [hP0]; exact IntWalk.i64_in _ (by omega)
  have s2 : IntKind.i64.wrap (2 + c.de) = 2 + c.de := IntWalk.i64_in _ (by omega)
  have s3 : IntKind.i64.wrap (P0 * (2 + c.de)) = P1 := by rw [hP2]; exact IntWalk.i64_in _ (by omega)
  have s4 : IntKind.i64.wrap (D + P1) = D + P1 := IntWalk.i64_in _ (by omega)
  have hx : (ixs (D + P1) t c.ta 5 = -1) ∨ (0 ≤ ixs (D + P1) t c.ta 5 ∧ ixs (D + P1) t c.ta 5 ≤ 100000) := by
    unfold ixs
    by_cases h : t < 0 ∨ c.ta ≤ t
    · exact .inl (if_pos h)
    · rw [if_neg h]
      exact .inr (by omega)
  have HI := Lib.hid (fun (u : World) => index_any (w := u) (D + P1) t c.ta 5 (by omega) (by omega) (by omega) (Or.inr rfl))
  generalize ixs (D + P1) t c.ta 5 = X at *
  have S0 := Lib.hid s0
  have S2 := Lib.hid s2
  have S3 := Lib.hid s3
  have S4 := Lib.hid s4
  have HR := Lib.hid hR
  clear hX hP0 hP1 hP2 hD hR s0 s2 s3 s4
  go_enter Tryz.func163, Tryz.ntmps163
  go_wp2_with fail
  generalize w.alloc (cbox c pa pn pc sa sn sc) = W at *
  have XD := Lib.hid (show Blk W.drew w.heap.size 29 (cc c pa pn pc sa sn sc) from HX.out)
  clear e0 e1 e2 e3 e4 e5 e6 e7 e8 e9 e10
  obtain ⟨e0, e1, e2, e3, e4, e5, e6, e7, e8, e9, e10⟩ := eleven XD.out
  have s0 := S0.out
  have s2 := S2.out
  have s3 := S3.out
  have s4 := S4.out
  go_region_held3 (fun w' => w'.cell? ⟨w.heap.size, 0, none⟩ = some (.int .i64 c.wo) ∧ w'.cell? ⟨w.heap.size, 1, none⟩ = some (.int .i64 c.le) ∧ w'.cell? ⟨w.heap.size, 2, none⟩ = some (.int .i64 c.cl) ∧ w'.cell? ⟨w.heap.size, 3, none⟩ = some (.int .i64 c.ta) ∧ w'.cell? ⟨w.heap.size, 4, none⟩ = some (.int .i64 c.de) ∧ w'.cell? ⟨w.heap.size, 5, none⟩ = some (.int .i64 c.he) ∧ w'.cell? ⟨w.heap.size, 6, none⟩ = some (.int .i64 c.ba) ∧ w'.cell? ⟨w.heap.size, 7, none⟩ = some (.int .i64 c.ag) ∧ w'.cell? ⟨w.heap.size, 8, none⟩ = some (.int .i64 c.pa) ∧ w'.cell? ⟨w.heap.size, 9, none⟩ = some (.slice pa pn pc) ∧ w'.cell? ⟨w.heap.size, 10, none⟩ = some (.slice sa sn sc)) (go_keep)
    (first
      | (go_at_call 85
         refine (deques_any hin).mono ?_
         rintro e w1 ⟨rfl, b1⟩
         rw [HD.out]
         obtain ⟨k0, k1, k2, k3, k4, k5, k6, k7, k8, k9, k10⟩ := eleven (XD.out.below b1)
         have BB := Lib.hid b1
         clear b1)
      | (go_at_call 131
         refine (HI.out _).mono ?_
         rintro e w2 ⟨rfl, rfl⟩))
  clear s0 s2 s3 s4
  have HB2 := Lib.hid ((below_drew HB.out).trans (BB.out.mono HB.out.size))
  clear BB HB
  rcases hx with rfl | ⟨hx0, hx1⟩
  · have hr := HR.out
    rw [if_pos (by decide)] at hr
    subst hr
    go_wp2
    go_ret
    exact ⟨rfl, HB2.out⟩
  · have hr := HR.out
    rw [if_neg (by omega)] at hr
    subst hr
    go_wp2
    go_ret
    exact ⟨rfl, HB2.out⟩
theorem rstate_any (hin : CfgIn c) (t : Int) : Calls Tryz.prog 149 #[cv c pa pn pc sa sn sc, .int .i64 t] w (GivesI (rTask c t 0) w) := by
  have HB := Lib.hid (below_one w (cbox c pa pn pc sa sn sc))
  go_enter Tryz.func149, Tryz.ntmps149
  go_wp2_with fail
  (with_reducible refine (task_any hin _ 0 ⟨by omega, by omega⟩).mono ?_)
  rintro e w1 ⟨rfl, b1⟩
  have HB2 := Lib.hid (HB.out.trans (b1.mono HB.out.size))
  clear b1 HB
  go_wp2
  go_ret
  exact ⟨rfl, HB2.out⟩
theorem rlevel_any (hin : CfgIn c) (t : Int) : Calls Tryz.prog 147 #[cv c pa pn pc sa sn sc, .int .i64 t] w (GivesI (rTask c t 1) w) := by
  have HB := Lib.hid (below_one w (cbox c pa pn pc sa sn sc))
  go_enter Tryz.func147, Tryz.ntmps147
  go_wp2_with fail
  (with_reducible refine (task_any hin _ 1 ⟨by omega, by omega⟩).mono ?_)
  rintro e w1 ⟨rfl, b1⟩
  have HB2 := Lib.hid (HB.out.trans (b1.mono HB.out.size))
  clear b1 HB
  go_wp2
  go_ret
  exact ⟨rfl, HB2.out⟩
theorem rjoin_any (hin : CfgIn c) (t : Int) : Calls Tryz.prog 157 #[cv c pa pn pc sa sn sc, .int .i64 t] w (GivesI (rTask c t 2) w) := by
  have HB := Lib.hid (below_one w (cbox c pa pn pc sa sn sc))
  go_enter Tryz.func157, Tryz.ntmps157
  go_wp2_with fail
  (with_reducible refine (task_any hin _ 2 ⟨by omega, by omega⟩).mono ?_)
  rintro e w1 ⟨rfl, b1⟩
  have HB2 := Lib.hid (HB.out.trans (b1.mono HB.out.size))
  clear b1 HB
  go_wp2
  go_ret
  exact ⟨rfl, HB2.out⟩
theorem rwaits_any (hin : CfgIn c) (t : Int) : Calls Tryz.prog 150 #[cv c pa pn pc sa sn sc, .int .i64 t] w (GivesI (rTask c t 3) w) := by
  have HB := Lib.hid (below_one w (cbox c pa pn pc sa sn sc))
  go_enter Tryz.func150, Tryz.ntmps150
  go_wp2_with fail
  (with_reducible refine (task_any hin _ 3 ⟨by omega, by omega⟩).mono ?_)
  rintro e w1 ⟨rfl, b1⟩
  have HB2 := Lib.hid (HB.out.trans (b1.mono HB.out.size))
  clear b1 HB
  go_wp2
  go_ret
  exact ⟨rfl, HB2.out⟩
theorem rsince_any (hin : CfgIn c) (t : Int) : Calls Tryz.prog 148 #[cv c pa pn pc sa sn sc, .int .i64 t] w (GivesI (rTask c t 4) w) := by
  have HB := Lib.hid (below_one w (cbox c pa pn pc sa sn sc))
  go_enter Tryz.func148, Tryz.ntmps148
  go_wp2_with fail
  (with_reducible refine (task_any hin _ 4 ⟨by omega, by omega⟩).mono ?_)
  rintro e w1 ⟨rfl, b1⟩
  have HB2 := Lib.hid (HB.out.trans (b1.mono HB.out.size))
  clear b1 HB
  go_wp2
  go_ret
  exact ⟨rfl, HB2.out⟩
end
end Go.Proofs.YtheimjcgpbmecaaGreat

namespace Go.Proofs.YtheimjcgpbmecaaGreat
open Go Go.RowKit

theorem below_any (i n : Int) (w : World) : Calls Tryz.prog 208 #[.int .i64 i, .int .i64 n] w fun e w' => e = .returned (.bool (decide (0 ≤ i ∧ i < n))) ∧ w = w' := by
  by_cases h0 : 0 ≤ i
  · by_cases h1 : i < n
    · rw [show decide (0 ≤ i ∧ i < n) = true from decide_eq_true ⟨h0, h1⟩]
      go_enter Tryz.func208, Tryz.ntmps208
      go_wp2
      go_ret
      exact ⟨rfl, rfl⟩
    · rw [show decide (0 ≤ i ∧ i < n) = false from decide_eq_false (fun h => h1 h.2)]
      go_enter Tryz.func208, Tryz.ntmps208
      go_wp2
      go_ret
      exact ⟨rfl, rfl⟩
  · rw [show decide (0 ≤ i ∧ i < n) = false from decide_eq_false (fun h => h0 h.1)]
    go_enter Tryz.func208, Tryz.ntmps208
    go_wp2
    go_ret
    exact ⟨rfl, rfl⟩

theorem single_any (first end_ i : Int) (h0 : 0 ≤ first) (h1 : first ≤ end_) (h2 : end_ ≤ 100000) (w : World) :
    Calls Tryz.prog 209 #[.int .i64 first, .int .i64 end_, .int .i64 i] w fun e w' => e = .returned (.int .i64 (ixs first i (end_ - first) 1)) ∧ w = w' := by
  unfold ixs
  by_cases hi : 0 ≤ i ∧ i < end_ - first
  · rw [if_neg (by omega), Int.mul_one]
    obtain ⟨i0, i1⟩ := hi
    go_enter Tryz.func209, Tryz.ntmps209
    go_wp2_with fail
    (with_reducible refine (below_any _ _ _).mono ?_)
    rintro e w1 ⟨rfl, rfl⟩
    rw [show decide (0 ≤ i ∧ i < end_ - first) = true from decide_eq_true ⟨i0, i1⟩]
    go_wp2
    go_ret
    exact ⟨rfl, rfl⟩
  · rw [if_pos (by omega)]
    have hd : decide (0 ≤ i ∧ i < end_ - first) = false := decide_eq_false hi
    clear hi
    go_enter Tryz.func209, Tryz.ntmps209
    go_wp2_with fail
    (with_reducible refine (below_any _ _ _).mono ?_)
    rintro e w1 ⟨rfl, rfl⟩
    rw [hd]
    go_wp2
    go_ret
    exact ⟨rfl, rfl⟩

section
variable {w : World} {c : Cfg}
theorem llock_any : Calls Tryz.prog 222 #[lv c] w (GivesI 1 w) := by
  have B1 := Lib.hid (below_one w (lbox c))
  go_enter Tryz.func222, Tryz.ntmps222
  go_wp2
  go_ret
  exact ⟨rfl, B1.out⟩
theorem lbitmap_any (h : CfgIn c) (i : Int) : Calls Tryz.prog 207 #[lv c, .int .i64 i] w (GivesI (rBitmap c i) w) := by
  have B1 := Lib.hid (below_one w (lbox c))
  have h1 := h.he
  have h2 := h.cl
  have h3 := h.wo
  have hd : rDeques c = 4 + c.he + c.cl + 2 * c.wo := rfl
  have hn : 4 + c.he + c.cl + 2 * c.wo - (4 + c.he + c.cl + c.wo) = c.wo := by omega
  have HN := Lib.hid hn
  clear hn
  go_enter Tryz.func207, Tryz.ntmps207
  go_wp2_with fail
  (with_reducible refine (single_any _ _ _ ?a1 ?a2 ?a3 _).mono ?_)
  case a1 => omega
  case a2 => omega
  case a3 => omega
  rintro e w1 ⟨rfl, rfl⟩
  rw [HN.out]
  clear hd
  go_wp2
  go_ret
  exact ⟨rfl, B1.out⟩
end
end Go.Proofs.YtheimjcgpbmecaaGreat
