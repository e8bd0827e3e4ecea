/-
  The reference's task, State, Level, Join, Waits, Since and Cells. (Written by wip/gen_lay3.py.)
-/
import Derived.Test.YtffcclgcgiilmaaLayB
namespace Go.Proofs.Ytffcclgcgiilmaa
open Go Go.RowKit

section
variable {w : World} {c : Cfg} {pa sa : Option Addr} {pn pc sn sc : Nat}
set_option maxHeartbeats 4000000 in
theorem task_any (hin : CfgIn c) (t k : Int) (hk : 0 ≤ k ∧ k ≤ 4) : Calls Try.prog 55 #[cv c pa pn pc sa sn sc, .int .i64 t, .int .i64 k] w (GivesI (rTask c t k) w) := by
  have HB := Lib.hid (below_one w (cbox c pa pn pc sa sn sc))
  have hX := Blk.made w 26 (cc c pa pn pc sa sn sc)
  have HX := Lib.hid hX
  obtain ⟨e0, e1, e2, e3, e4, e5, e6, e7, e8, e9, e10⟩ := eleven hX
  have hd := hin.deques
  have hal := hin.all
  have hwl := hin.wl
  have hde := hin.de
  have hta := hin.ta
  obtain ⟨R, hR⟩ : ∃ r, rTask c t k = r := ⟨_, rfl⟩
  rw [hR]
  unfold rTask at hR
  obtain ⟨P0, hP0⟩ : ∃ p, c.wo * c.le = p := ⟨_, rfl⟩
  obtain ⟨P1, hP1⟩ : ∃ p, rAll c = p := ⟨_, rfl⟩
  obtain ⟨D, hD⟩ : ∃ d, rDeques c = d := ⟨_, rfl⟩
  have hP2 : P0 * (2 + c.de) = P1 := by rw [← hP1, ← hP0]; rfl
  rw [hD] at hd hR
  rw [hP1] at hal hR
  rw [hP0] at hwl
  have HD := Lib.hid hD
  have s0 : IntKind.i64.wrap (c.wo * c.le) = P0 := by rw [hP0]; exact IntWalk.i64_in _ (by omega)
  have s2 : IntKind.i64.wrap (2 + c.de) = 2 + c.de := IntWalk.i64_in _ (by omega)
  have s3 : IntKind.i64.wrap (P0 * (2 + c.de)) = P1 := by rw [hP2]; exact IntWalk.i64_in _ (by omega)
  have s4 : IntKind.i64.wrap (D + P1) = D + P1 := IntWalk.i64_in _ (by omega)
  have hx : (ixs (D + P1) t c.ta 5 = -1) ∨ (0 ≤ ixs (D + P1) t c.ta 5 ∧ ixs (D + P1) t c.ta 5 ≤ 100000) := by
    unfold ixs
    by_cases h : t < 0 ∨ c.ta ≤ t
    · exact .inl (if_pos h)
    · rw [if_neg h]
      exact .inr (by omega)
  have HI := Lib.hid (fun (u : World) => index_any (w := u) (D + P1) t c.ta 5 (by omega) (by omega) (by omega) (Or.inr rfl))
  generalize ixs (D + P1) t c.ta 5 = X at *
  have S0 := Lib.hid s0
  have S2 := Lib.hid s2
  have S3 := Lib.hid s3
  have S4 := Lib.hid s4
  have HR := Lib.hid hR
  clear hX hP0 hP1 hP2 hD hR s0 s2 s3 s4
  go_enter Try.func55, Try.ntmps55
  go_wp2_with fail
  generalize w.alloc (cbox c pa pn pc sa sn sc) = W at *
  have XD := Lib.hid (show Blk W.drew w.heap.size 26 (cc c pa pn pc sa sn sc) from HX.out)
  clear e0 e1 e2 e3 e4 e5 e6 e7 e8 e9 e10
  obtain ⟨e0, e1, e2, e3, e4, e5, e6, e7, e8, e9, e10⟩ := eleven XD.out
  have s0 := S0.out
  have s2 := S2.out
  have s3 := S3.out
  have s4 := S4.out
  go_region_held3 (fun w' => w'.cell? ⟨w.heap.size, 0, none⟩ = some (.int .i64 c.wo) ∧ w'.cell? ⟨w.heap.size, 1, none⟩ = some (.int .i64 c.le) ∧ w'.cell? ⟨w.heap.size, 2, none⟩ = some (.int .i64 c.cl) ∧ w'.cell? ⟨w.heap.size, 3, none⟩ = some (.int .i64 c.ta) ∧ w'.cell? ⟨w.heap.size, 4, none⟩ = some (.int .i64 c.de) ∧ w'.cell? ⟨w.heap.size, 5, none⟩ = some (.int .i64 c.he) ∧ w'.cell? ⟨w.heap.size, 6, none⟩ = some (.int .i64 c.ba) ∧ w'.cell? ⟨w.heap.size, 7, none⟩ = some (.int .i64 c.ag) ∧ w'.cell? ⟨w.heap.size, 8, none⟩ = some (.int .i64 c.pa) ∧ w'.cell? ⟨w.heap.size, 9, none⟩ = some (.slice pa pn pc) ∧ w'.cell? ⟨w.heap.size, 10, none⟩ = some (.slice sa sn sc)) (go_keep)
    (first
      | (go_at_call 46
         refine (deques_any hin).mono ?_
         rintro e w1 ⟨rfl, b1⟩
         rw [HD.out]
         obtain ⟨k0, k1, k2, k3, k4, k5, k6, k7, k8, k9, k10⟩ := eleven (XD.out.below b1)
         have BB := Lib.hid b1
         clear b1)
      | (go_at_call 54
         refine (HI.out _).mono ?_
         rintro e w2 ⟨rfl, rfl⟩))
  clear s0 s2 s3 s4
  have HB2 := Lib.hid ((below_drew HB.out).trans (BB.out.mono HB.out.size))
  clear BB HB
  rcases hx with rfl | ⟨hx0, hx1⟩
  · have hr := HR.out
    rw [if_pos (by decide)] at hr
    subst hr
    go_wp2
    go_ret
    exact ⟨rfl, HB2.out⟩
  · have hr := HR.out
    rw [if_neg (by omega)] at hr
    subst hr
    go_wp2
    go_ret
    exact ⟨rfl, HB2.out⟩
theorem rstate_any (hin : CfgIn c) (t : Int) : Calls Try.prog 37 #[cv c pa pn pc sa sn sc, .int .i64 t] w (GivesI (rTask c t 0) w) := by
  have HB := Lib.hid (below_one w (cbox c pa pn pc sa sn sc))
  go_enter Try.func37, Try.ntmps37
  go_wp2_with fail
  (with_reducible refine (task_any hin _ 0 ⟨by omega, by omega⟩).mono ?_)
  rintro e w1 ⟨rfl, b1⟩
  have HB2 := Lib.hid (HB.out.trans (b1.mono HB.out.size))
  clear b1 HB
  go_wp2
  go_ret
  exact ⟨rfl, HB2.out⟩
theorem rlevel_any (hin : CfgIn c) (t : Int) : Calls Try.prog 38 #[cv c pa pn pc sa sn sc, .int .i64 t] w (GivesI (rTask c t 1) w) := by
  have HB := Lib.hid (below_one w (cbox c pa pn pc sa sn sc))
  go_enter Try.func38, Try.ntmps38
  go_wp2_with fail
  (with_reducible refine (task_any hin _ 1 ⟨by omega, by omega⟩).mono ?_)
  rintro e w1 ⟨rfl, b1⟩
  have HB2 := Lib.hid (HB.out.trans (b1.mono HB.out.size))
  clear b1 HB
  go_wp2
  go_ret
  exact ⟨rfl, HB2.out⟩
theorem rjoin_any (hin : CfgIn c) (t : Int) : Calls Try.prog 39 #[cv c pa pn pc sa sn sc, .int .i64 t] w (GivesI (rTask c t 2) w) := by
  have HB := Lib.hid (below_one w (cbox c pa pn pc sa sn sc))
  go_enter Try.func39, Try.ntmps39
  go_wp2_with fail
  (with_reducible refine (task_any hin _ 2 ⟨by omega, by omega⟩).mono ?_)
  rintro e w1 ⟨rfl, b1⟩
  have HB2 := Lib.hid (HB.out.trans (b1.mono HB.out.size))
  clear b1 HB
  go_wp2
  go_ret
  exact ⟨rfl, HB2.out⟩
theorem rwaits_any (hin : CfgIn c) (t : Int) : Calls Try.prog 40 #[cv c pa pn pc sa sn sc, .int .i64 t] w (GivesI (rTask c t 3) w) := by
  have HB := Lib.hid (below_one w (cbox c pa pn pc sa sn sc))
  go_enter Try.func40, Try.ntmps40
  go_wp2_with fail
  (with_reducible refine (task_any hin _ 3 ⟨by omega, by omega⟩).mono ?_)
  rintro e w1 ⟨rfl, b1⟩
  have HB2 := Lib.hid (HB.out.trans (b1.mono HB.out.size))
  clear b1 HB
  go_wp2
  go_ret
  exact ⟨rfl, HB2.out⟩
theorem rsince_any (hin : CfgIn c) (t : Int) : Calls Try.prog 41 #[cv c pa pn pc sa sn sc, .int .i64 t] w (GivesI (rTask c t 4) w) := by
  have HB := Lib.hid (below_one w (cbox c pa pn pc sa sn sc))
  go_enter Try.func41, Try.ntmps41
  go_wp2_with fail
  (with_reducible refine (task_any hin _ 4 ⟨by omega, by omega⟩).mono ?_)
  rintro e w1 ⟨rfl, b1⟩
  have HB2 := Lib.hid (HB.out.trans (b1.mono HB.out.size))
  clear b1 HB
  go_wp2
  go_ret
  exact ⟨rfl, HB2.out⟩
set_option maxHeartbeats 4000000 in
theorem rcells_any (hin : CfgIn c) : Calls Try.prog 14 #[cv c pa pn pc sa sn sc] w (GivesI (rCells c) w) := by
  have HB := Lib.hid (below_one w (cbox c pa pn pc sa sn sc))
  have hX := Blk.made w 26 (cc c pa pn pc sa sn sc)
  have HX := Lib.hid hX
  obtain ⟨e0, e1, e2, e3, e4, e5, e6, e7, e8, e9, e10⟩ := eleven hX
  have hd := hin.deques
  have hal := hin.all
  have hwl := hin.wl
  have hde := hin.de
  have hta := hin.ta
  unfold rCells
  obtain ⟨P0, hP0⟩ : ∃ p, c.wo * c.le = p := ⟨_, rfl⟩
  obtain ⟨P1, hP1⟩ : ∃ p, rAll c = p := ⟨_, rfl⟩
  obtain ⟨D, hD⟩ : ∃ d, rDeques c = d := ⟨_, rfl⟩
  have hP2 : P0 * (2 + c.de) = P1 := by rw [← hP1, ← hP0]; rfl
  rw [hD] at hd ⊢
  rw [hP1] at hal ⊢
  rw [hP0] at hwl
  have HD := Lib.hid hD
  have s0 : IntKind.i64.wrap (c.wo * c.le) = P0 := by rw [hP0]; exact IntWalk.i64_in _ (by omega)
  have s2 : IntKind.i64.wrap (2 + c.de) = 2 + c.de := IntWalk.i64_in _ (by omega)
  have s3 : IntKind.i64.wrap (P0 * (2 + c.de)) = P1 := by rw [hP2]; exact IntWalk.i64_in _ (by omega)
  have s4 : IntKind.i64.wrap (D + P1) = D + P1 := IntWalk.i64_in _ (by omega)
  have s5 : IntKind.i64.wrap (5 * c.ta) = 5 * c.ta := IntWalk.i64_in _ (by omega)
  have s6 : IntKind.i64.wrap (D + P1 + 5 * c.ta) = D + P1 + 5 * c.ta := IntWalk.i64_in _ (by omega)
  have S0 := Lib.hid s0
  have S2 := Lib.hid s2
  have S3 := Lib.hid s3
  have S4 := Lib.hid s4
  have S5 := Lib.hid s5
  have S6 := Lib.hid s6
  clear hX hP0 hP1 hP2 hD s0 s2 s3 s4 s5 s6
  go_enter Try.func14, Try.ntmps14
  go_wp2_with fail
  generalize w.alloc (cbox c pa pn pc sa sn sc) = W at *
  have XD := Lib.hid (show Blk W.drew w.heap.size 26 (cc c pa pn pc sa sn sc) from HX.out)
  clear e0 e1 e2 e3 e4 e5 e6 e7 e8 e9 e10
  obtain ⟨e0, e1, e2, e3, e4, e5, e6, e7, e8, e9, e10⟩ := eleven XD.out
  have s0 := S0.out
  have s2 := S2.out
  have s3 := S3.out
  have s4 := S4.out
  have s5 := S5.out
  have s6 := S6.out
  go_region_held3 (fun w' => w'.cell? ⟨w.heap.size, 0, none⟩ = some (.int .i64 c.wo) ∧ w'.cell? ⟨w.heap.size, 1, none⟩ = some (.int .i64 c.le) ∧ w'.cell? ⟨w.heap.size, 2, none⟩ = some (.int .i64 c.cl) ∧ w'.cell? ⟨w.heap.size, 3, none⟩ = some (.int .i64 c.ta) ∧ w'.cell? ⟨w.heap.size, 4, none⟩ = some (.int .i64 c.de) ∧ w'.cell? ⟨w.heap.size, 5, none⟩ = some (.int .i64 c.he) ∧ w'.cell? ⟨w.heap.size, 6, none⟩ = some (.int .i64 c.ba) ∧ w'.cell? ⟨w.heap.size, 7, none⟩ = some (.int .i64 c.ag) ∧ w'.cell? ⟨w.heap.size, 8, none⟩ = some (.int .i64 c.pa) ∧ w'.cell? ⟨w.heap.size, 9, none⟩ = some (.slice pa pn pc) ∧ w'.cell? ⟨w.heap.size, 10, none⟩ = some (.slice sa sn sc)) (go_keep)
    ((go_at_call 46
      refine (deques_any hin).mono ?_
      rintro e w1 ⟨rfl, b1⟩
      rw [HD.out]
      obtain ⟨k0, k1, k2, k3, k4, k5, k6, k7, k8, k9, k10⟩ := eleven (XD.out.below b1)
      have BB := Lib.hid b1
      clear b1))
  clear s0 s2 s3 s4 s5 s6
  have HB2 := Lib.hid ((below_drew HB.out).trans (BB.out.mono HB.out.size))
  go_wp2
  go_ret
  exact ⟨rfl, HB2.out⟩
end
end Go.Proofs.Ytffcclgcgiilmaa
