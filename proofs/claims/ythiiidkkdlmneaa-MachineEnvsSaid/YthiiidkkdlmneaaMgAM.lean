/-
  The reference's layout: its cells as plain numbers, and the contracts of its functions.
  Package layout: a layout's numbers, Cells. (Written by wip/gen_lya.py.)
  The reference's Cells.
-/
import Derived.Test.YthiiidkkdlmneaaMgAG
import Derived.BigQuiet
import Derived.Lib.Hide
import Derived.Deep.CutRange
import Derived.Deep.RegionHeld3
namespace Go.Proofs.Ythiiidkkdlmneaa
open Go Go.RowKit

/-- The numbers of a configuration are in their ranges. -/
structure CfgIn (c : Cfg) : Prop where
  wo : 1 ≤ c.wo ∧ c.wo ≤ 16
  le : 1 ≤ c.le ∧ c.le ≤ 64
  cl : 1 ≤ c.cl ∧ c.cl ≤ 8
  ta : 1 ≤ c.ta ∧ c.ta ≤ 256
  de : 1 ≤ c.de ∧ c.de ≤ 64
  he : 1 ≤ c.he ∧ c.he ≤ 64

def ixs (first i n size : Int) : Int := if i < 0 ∨ n ≤ i then -1 else first + i * size
def rSlot (c : Cfg) (i : Int) : Int := ixs 4 i c.he 1
def rSleepers (c : Cfg) (i : Int) : Int := ixs (4 + c.he) i c.cl 1
def rEpoch (c : Cfg) (i : Int) : Int := ixs (4 + c.he + c.cl) i c.wo 1
def rBitmap (c : Cfg) (i : Int) : Int := ixs (4 + c.he + c.cl + c.wo) i c.wo 1
def rDeques (c : Cfg) : Int := 4 + c.he + c.cl + 2 * c.wo
/-- The cells of all deques. -/
def rAll (c : Cfg) : Int := c.wo * c.le * (2 + c.de)
def rAt (c : Cfg) (w l : Int) : Int := rDeques c + (w * c.le + l) * (2 + c.de)
/-- There is such a deque. -/
def qIn (c : Cfg) (w l : Int) : Prop := 0 ≤ w ∧ w < c.wo ∧ 0 ≤ l ∧ l < c.le
instance (c : Cfg) (w l : Int) : Decidable (qIn c w l) := by unfold qIn; infer_instance
def rTask (c : Cfg) (t k : Int) : Int := if ixs (rDeques c + rAll c) t c.ta 5 < 0 then -1 else ixs (rDeques c + rAll c) t c.ta 5 + k
def rCells (c : Cfg) : Int := rDeques c + rAll c + 5 * c.ta

theorem mul_in {a b A B : Int} (h0 : 0 ≤ a) (h1 : a ≤ A) (h2 : 0 ≤ b) (h3 : b ≤ B) : 0 ≤ a * b ∧ a * b ≤ A * B :=
  ⟨Int.mul_nonneg h0 h2, Int.mul_le_mul h1 h3 h2 (Int.le_trans h0 h1)⟩
theorem CfgIn.wl {c : Cfg} (h : CfgIn c) : 1 ≤ c.wo * c.le ∧ c.wo * c.le ≤ 1024 := by
  have h1 := h.wo
  have h2 := h.le
  have h3 := mul_in (a := c.wo - 1) (b := c.le - 1) (by omega) (Int.le_refl _) (by omega) (Int.le_refl _)
  have h4 : (c.wo - 1) * (c.le - 1) = c.wo * c.le - c.wo - c.le + 1 := by
    rw [Int.sub_mul, Int.mul_sub]; omega
  have := (mul_in (a := c.wo) (b := c.le) (by omega) h1.2 (by omega) h2.2).2
  omega
theorem CfgIn.all {c : Cfg} (h : CfgIn c) : 0 ≤ rAll c ∧ rAll c ≤ 67584 := by
  have h1 := h.wl
  have h2 := h.de
  exact mul_in (by omega) h1.2 (by omega) (by omega : 2 + c.de ≤ 66)
theorem CfgIn.deques {c : Cfg} (h : CfgIn c) : 0 ≤ rDeques c ∧ rDeques c ≤ 200 := by
  have h1 := h.he
  have h2 := h.cl
  have h3 := h.wo
  unfold rDeques
  omega
theorem CfgIn.cells {c : Cfg} (h : CfgIn c) : 5 ≤ rCells c ∧ rCells c ≤ 70000 := by
  have h1 := h.all
  have h2 := h.he
  have h3 := h.cl
  have h4 := h.wo
  have h5 := h.ta
  unfold rCells rDeques
  omega
/-- A place of a deque is within those of all deques. -/
theorem CfgIn.at_ {c : Cfg} (h : CfgIn c) {w l : Int} (hq : qIn c w l) : 0 ≤ w * c.le ∧ w * c.le + l + 1 ≤ 1024 ∧ 0 ≤ (w * c.le + l) * (2 + c.de) ∧ (w * c.le + l) * (2 + c.de) + (2 + c.de) ≤ rAll c := by
  obtain ⟨q0, q1, q2, q3⟩ := hq
  have h1 := h.le
  have h2 := h.de
  have h3 := h.wl
  have h4 : w * c.le + c.le ≤ c.wo * c.le := by
    have := Int.mul_le_mul_of_nonneg_right (show w + 1 ≤ c.wo by omega) (show 0 ≤ c.le by omega)
    rw [Int.add_mul] at this
    omega
  have h5 : 0 ≤ w * c.le := Int.mul_nonneg q0 (by omega)
  refine ⟨h5, by omega, Int.mul_nonneg (by omega) (by omega), ?_⟩
  have h6 := Int.mul_le_mul_of_nonneg_right (show w * c.le + l + 1 ≤ c.wo * c.le by omega) (show 0 ≤ 2 + c.de by omega)
  rw [Int.add_mul] at h6
  unfold rAll
  omega

/-- What a function of a configuration gives: a number, and new memory. -/
def GivesI (v : Int) (w : World) (e : Ending) (w' : World) : Prop := e = .returned (.int .i64 v) ∧ Below w.heap.size w w'

abbrev cbox (c : Cfg) (pa : Option Addr) (pn pc : Nat) (sa : Option Addr) (sn sc : Nat) : Obj := .cells (cc c pa pn pc sa sn sc) 26

section
variable {w : World} {c : Cfg} {pa sa : Option Addr} {pn pc sn sc : Nat}
theorem deques_any (h : CfgIn c) : Calls Try.prog 64 #[cv c pa pn pc sa sn sc] w (GivesI (rDeques c) w) := by
  have h1 := h.he
  have h2 := h.cl
  have h3 := h.wo
  have B1 := Lib.hid (below_one w (cbox c pa pn pc sa sn sc))
  go_enter Try.func64, Try.ntmps64
  go_wp2
  go_ret
  exact ⟨rfl, B1.out⟩
end
end Go.Proofs.Ythiiidkkdlmneaa

namespace Go.Proofs.Ythiiidkkdlmneaa
open Go Go.RowKit

/-- The numbers of a layout. -/
abbrev lcells (c : Cfg) : Array Value := #[.int .i64 4, .int .i64 (4 + c.he), .int .i64 (4 + c.he + c.cl), .int .i64 (4 + c.he + c.cl + c.wo), .int .i64 (rDeques c), .int .i64 (rDeques c + rAll c), .int .i64 (rCells c), .int .i64 c.le, .int .i64 c.de]
abbrev lv (c : Cfg) : Value := .agg (lcells c)
abbrev lbox (c : Cfg) : Obj := .cells (lcells c) 35

section
variable {w : World} {c : Cfg}
theorem lcells_any : Calls Try.prog 13 #[lv c] w (GivesI (rCells c) w) := by
  have B1 := Lib.hid (below_one w (lbox c))
  go_enter Try.func13, Try.ntmps13
  go_wp2
  go_ret
  exact ⟨rfl, B1.out⟩
theorem lqueuecells_any (v0 v1 v2 v3 v4 v5 v6 v7 d : Int) (h : 1 ≤ d ∧ d ≤ 64) : Calls Try.prog 57 #[.agg #[.int .i64 v0, .int .i64 v1, .int .i64 v2, .int .i64 v3, .int .i64 v4, .int .i64 v5, .int .i64 v6, .int .i64 v7, .int .i64 d]] w (GivesI (2 + d) w) := by
  have B1 := Lib.hid (below_one w (.cells #[.int .i64 v0, .int .i64 v1, .int .i64 v2, .int .i64 v3, .int .i64 v4, .int .i64 v5, .int .i64 v6, .int .i64 v7, .int .i64 d] 35))
  go_enter Try.func57, Try.ntmps57
  go_wp2
  go_ret
  exact ⟨rfl, B1.out⟩
end
end Go.Proofs.Ythiiidkkdlmneaa

namespace Go.Proofs.Ythiiidkkdlmneaa
open Go Go.RowKit

section
variable {w : World} {c : Cfg} {pa sa : Option Addr} {pn pc sn sc : Nat}
set_option maxHeartbeats 4000000 in
theorem rcells_any (hin : CfgIn c) : Calls Try.prog 41 #[cv c pa pn pc sa sn sc] w (GivesI (rCells c) w) := by
  have HB := Lib.hid (below_one w (cbox c pa pn pc sa sn sc))
  have hX := Blk.made w 26 (cc c pa pn pc sa sn sc)
  have HX := Lib.hid hX
  obtain ⟨e0, e1, e2, e3, e4, e5, e6, e7, e8, e9, e10⟩ := eleven hX
  have hd := hin.deques
  have hal := hin.all
  have hwl := hin.wl
  have hde := hin.de
  have hta := hin.ta
  unfold rCells
  obtain ⟨P0, hP0⟩ : ∃ p, c.wo * c.le = p := ⟨_, rfl⟩
  obtain ⟨P1, hP1⟩ : ∃ p, rAll c = p := ⟨_, rfl⟩
  obtain ⟨D, hD⟩ : ∃ d, rDeques c = d := ⟨_, rfl⟩
  have hP2 : P0 * (2 + c.de) = P1 := by rw [← hP1, ← hP0]; rfl
  rw [hD] at hd ⊢
  rw [hP1] at hal ⊢
  rw [hP0] at hwl
  have HD := Lib.hid hD
  have s0 : IntKind.i64.wrap (c.wo * c.le) = P0 := by rw [hP0]; exact IntWalk.i64_in _ (by omega)
  have s2 : IntKind.i64.wrap (2 + c.de) = 2 + c.de := IntWalk.i64_in _ (by omega)
  have s3 : IntKind.i64.wrap (P0 * (2 + c.de)) = P1 := by rw [hP2]; exact IntWalk.i64_in _ (by omega)
  have s4 : IntKind.i64.wrap (D + P1) = D + P1 := IntWalk.i64_in _ (by omega)
  have s5 : IntKind.i64.wrap (5 * c.ta) = 5 * c.ta := IntWalk.i64_in _ (by omega)
  have s6 : IntKind.i64.wrap (D + P1 + 5 * c.ta) = D + P1 + 5 * c.ta := IntWalk.i64_in _ (by omega)
  have S0 := Lib.hid s0
  have S2 := Lib.hid s2
  have S3 := Lib.hid s3
  have S4 := Lib.hid s4
  have S5 := Lib.hid s5
  have S6 := Lib.hid s6
  clear hX hP0 hP1 hP2 hD s0 s2 s3 s4 s5 s6
  go_enter Try.func41, Try.ntmps41
  go_wp2_with fail
  generalize w.alloc (cbox c pa pn pc sa sn sc) = W at *
  have XD := Lib.hid (show Blk W.drew w.heap.size 26 (cc c pa pn pc sa sn sc) from HX.out)
  clear e0 e1 e2 e3 e4 e5 e6 e7 e8 e9 e10
  obtain ⟨e0, e1, e2, e3, e4, e5, e6, e7, e8, e9, e10⟩ := eleven XD.out
  have s0 := S0.out
  have s2 := S2.out
  have s3 := S3.out
  have s4 := S4.out
  have s5 := S5.out
  have s6 := S6.out
  go_region_held3 (fun w' => w'.cell? ⟨w.heap.size, 0, none⟩ = some (.int .i64 c.wo) ∧ w'.cell? ⟨w.heap.size, 1, none⟩ = some (.int .i64 c.le) ∧ w'.cell? ⟨w.heap.size, 2, none⟩ = some (.int .i64 c.cl) ∧ w'.cell? ⟨w.heap.size, 3, none⟩ = some (.int .i64 c.ta) ∧ w'.cell? ⟨w.heap.size, 4, none⟩ = some (.int .i64 c.de) ∧ w'.cell? ⟨w.heap.size, 5, none⟩ = some (.int .i64 c.he) ∧ w'.cell? ⟨w.heap.size, 6, none⟩ = some (.int .i64 c.ba) ∧ w'.cell? ⟨w.heap.size, 7, none⟩ = some (.int .i64 c.ag) ∧ w'.cell? ⟨w.heap.size, 8, none⟩ = some (.int .i64 c.pa) ∧ w'.cell? ⟨w.heap.size, 9, none⟩ = some (.slice pa pn pc) ∧ w'.cell? ⟨w.heap.size, 10, none⟩ = some (.slice sa sn sc)) (go_keep)
    ((go_at_call 64
      refine (deques_any hin).mono ?_
      rintro e w1 ⟨rfl, b1⟩
      rw [HD.out]
      obtain ⟨k0, k1, k2, k3, k4, k5, k6, k7, k8, k9, k10⟩ := eleven (XD.out.below b1)
      have BB := Lib.hid b1
      clear b1))
  clear s0 s2 s3 s4 s5 s6
  have HB2 := Lib.hid ((below_drew HB.out).trans (BB.out.mono HB.out.size))
  go_wp2
  go_ret
  exact ⟨rfl, HB2.out⟩
end
end Go.Proofs.Ythiiidkkdlmneaa
