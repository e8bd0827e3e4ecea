/-
  The walk of the statement OwnerPops: it returns true. (Written by wip/gen_l9z.py.)
-/
import Derived.Test.YtplifdmfoeejaaaGreatMgBS
import Derived.Test.YtplifdmfoeejaaaGreatMgBT
namespace Go.Proofs.YtplifdmfoeejaaaGreat
open Go Go.RowKit Go.Shelf
set_option linter.unusedSimpArgs false
set_option linter.unusedVariables false

set_option maxRecDepth 100000 in
set_option maxHeartbeats 16000000 in
theorem pops_law {w : World} {ca na : Option Addr} {cn nn : Nat} {cz nz : List Int} (cc nc : Nat) (p0 p1 p2 p3 : Int) (hc : InW w ca cn cz ∧ ∀ x, x ∈ cz → 0 ≤ x) (hz : InInts w na nn nz) :
    Calls Tryz.prog 4 #[.slice ca cn cc, .agg #[.int .i64 p0, .int .i64 p1, .int .i64 p2, .int .i64 p3], .slice na nn nc] w fun e w' => e = .returned (.bool true) ∧ Below w.heap.size w w' := by
  have hPX := Blk.made w 23 #[.int .i64 p0, .int .i64 p1, .int .i64 p2, .int .i64 p3]
  have hPB := below_one w (.cells #[.int .i64 p0, .int .i64 p1, .int .i64 p2, .int .i64 p3] 23)
  have PX0 := Lib.hid hPX
  have B0 := Lib.hid hPB
  have hmc := hc.1.2.1
  have hmz := hz.2.1
  unfold maxLen at hmc hmz
  have HC := Lib.hid hc
  have HZ := Lib.hid hz
  clear hPX hPB hc hz
  by_cases h40 : 40 < cn
  · go_enter Tryz.func4, Tryz.ntmps4
    go_wp2
    go_ret
    exact ⟨rfl, B0.out⟩
  have h41 : decide (40 < (cn : Int)) = false := decide_eq_false (by omega)
  obtain ⟨sb, hsb⟩ : ∃ sb, decide ((nn : Int) ≤ 400) = sb := ⟨_, rfl⟩
  have HSB := Lib.hid hsb
  clear hsb
  go_enter Tryz.func4, Tryz.ntmps4
  go_upto_region 1 with fail
  generalize w.alloc (.cells #[.int .i64 p0, .int .i64 p1, .int .i64 p2, .int .i64 p3] 23) = W0 at *
  have hX := Blk.made W0 24 #[.slice na nn nc]
  have HS := Lib.hid (short1_any hX (by omega))
  rw [HSB.out] at HS
  have PX := Lib.hid (PX0.out.alloc (.cells #[.slice na nn nc] 24))
  have B1 := Lib.hid (B0.out.alloc B0.out.size (.cells #[.slice na nn nc] 24))
  clear hX PX0 B0
  go_wp2_with fail
  (with_reducible refine HS.out.mono ?_)
  rintro e w1 ⟨rfl, rfl⟩
  generalize W0.alloc (.cells #[.slice na nn nc] 24) = W1 at *
  cases sb with
  | false =>
    go_wp2
    go_ret
    exact ⟨rfl, B1.out⟩
  | true =>
  have g0 : W1.cell? ⟨w.heap.size, 0, none⟩ = some (.int .i64 p0) := PX.out.at_ 0
  have g1 : W1.cell? ⟨w.heap.size, 1, none⟩ = some (.int .i64 p1) := PX.out.at_ 1
  have g2 : W1.cell? ⟨w.heap.size, 2, none⟩ = some (.int .i64 p2) := PX.out.at_ 2
  have g3 : W1.cell? ⟨w.heap.size, 3, none⟩ = some (.int .i64 p3) := PX.out.at_ 3
  go_wp2_with fail
  (with_reducible refine (lawqueue_any ca cn cc (by omega) p0 p1 p2 p3 _).mono ?_)
  rintro e w2 ⟨t, b, r, c, rfl, hck, hb2⟩
  have B2 := Lib.hid (B1.out.trans (hb2.mono B1.out.size))
  clear hb2 g0 g1 g2 g3 PX B1 HS
  go_upto_region 4 with fail
  have Q3 := Lib.hid (Blk.made w2 27 (qcells t b r c))
  have B3 := Lib.hid (B2.out.alloc B2.out.size (.cells (qcells t b r c) 27))
  generalize w2.alloc (.cells (qcells t b r c) 27) = W3 at *
  generalize w2.heap.size = qb at *
  clear B2
  go_wp2_with fail
  (with_reducible refine (mbare_any (HC.out.1.below B3.out) cc (by omega)).mono ?_)
  rintro e w5 ⟨p, m, k, g, q, ag, acap, s, rfl, hd, hsX, hsc, hb5⟩
  have D5 := Lib.hid hd
  have S5 := Lib.hid (And.intro (Row.inNN HC.out.2 hsX) (show 0 ≤ s.c ∧ s.c ≤ 1000 by omega))
  have Q5 := Lib.hid (Q3.out.below hb5)
  have B5 := Lib.hid hb5
  have Q3x := Q3
  have Z4 := Lib.hid (HZ.out.below B3.out)
  clear hd hsX hsc hb5 Q3
  go_wp2_with fail
  have D5d := Lib.hid (D5.out.drewN 1)
  have Q5d := Lib.hid (Q5.out.below (below_drew (Below.refl _ _)))
  have B5d := Lib.hid (below_drew B5.out)
  clear D5 Q5 B5
  have y0 : w5.drew.cell? ⟨qb, 0, none⟩ = some (.int .i64 t) := Q5d.out.at_ 0
  have y1 : w5.drew.cell? ⟨qb, 1, none⟩ = some (.int .i64 b) := Q5d.out.at_ 1
  have y2 : w5.drew.cell? ⟨qb, 2, none⟩ = some (.int .i64 r) := Q5d.out.at_ 2
  have y3 : w5.drew.cell? ⟨qb, 3, none⟩ = some (.int .i64 c) := Q5d.out.at_ 3
  go_region_held3 (fun w' => w'.cell? ⟨qb, 0, none⟩ = some (.int .i64 t) ∧ w'.cell? ⟨qb, 1, none⟩ = some (.int .i64 b) ∧ w'.cell? ⟨qb, 2, none⟩ = some (.int .i64 r) ∧ w'.cell? ⟨qb, 3, none⟩ = some (.int .i64 c)) ((first | exact ⟨x0, x1, x2, x3⟩ | exact ⟨z0, z1, z2, z3⟩ | exact ⟨v0, v1, v2, v3⟩ | exact ⟨u0, u1, u2, u3⟩ | exact ⟨y0, y1, y2, y3⟩ | go_keep))
    (first
     | (go_at_call 11
        refine (awake9_any _).mono ?_
        rintro e w6 ⟨rfl, hb6⟩
        have D6 := Lib.hid (D5d.out.below hb6)
        have Q6 := Lib.hid (Q5d.out.below hb6)
        have B6 := Lib.hid (B5d.out.trans (hb6.mono B5d.out.size))
        have u0 : w6.cell? ⟨qb, 0, none⟩ = some (.int .i64 t) := Q6.out.at_ 0
        have u1 : w6.cell? ⟨qb, 1, none⟩ = some (.int .i64 b) := Q6.out.at_ 1
        have u2 : w6.cell? ⟨qb, 2, none⟩ = some (.int .i64 r) := Q6.out.at_ 2
        have u3 : w6.cell? ⟨qb, 3, none⟩ = some (.int .i64 c) := Q6.out.at_ 3)
     | (go_at_call 15
        refine (oPop_any t b r c _).mono ?_
        rintro e w7 ⟨x, rfl, ho, hx, hb7⟩
        have Q7 := Lib.hid (Q6.out.below hb7)
        have v0 : w7.cell? ⟨qb, 0, none⟩ = some (.int .i64 t) := Q7.out.at_ 0
        have v1 : w7.cell? ⟨qb, 1, none⟩ = some (.int .i64 b) := Q7.out.at_ 1
        have v2 : w7.cell? ⟨qb, 2, none⟩ = some (.int .i64 r) := Q7.out.at_ 2
        have v3 : w7.cell? ⟨qb, 3, none⟩ = some (.int .i64 c) := Q7.out.at_ 3)
     | (go_at_call 14
        refine (make_any { fra1 1 t b r c 0 with ln := 0 } _ (by rfl)).mono ?_
        rintro e w8 ⟨y, gy, cy, rfl, hm, hb8⟩
        have Q8 := Lib.hid (Q7.out.below hb8)
        have M8 := Lib.hid (ms_start_popper D6.out S5.out.1 S5.out.2 B6.out hb7 ho hx hb8 hm hck)
        have z0 : w8.cell? ⟨qb, 0, none⟩ = some (.int .i64 t) := Q8.out.at_ 0
        have z1 : w8.cell? ⟨qb, 1, none⟩ = some (.int .i64 b) := Q8.out.at_ 1
        have z2 : w8.cell? ⟨qb, 2, none⟩ = some (.int .i64 r) := Q8.out.at_ 2
        have z3 : w8.cell? ⟨qb, 3, none⟩ = some (.int .i64 c) := Q8.out.at_ 3)
     | (go_at_call 12
        refine (match_popper M8.out (by omega) (by omega) (by simp) Z4.out).mono ?_
        rintro e w9 ⟨rfl, hb9⟩
        have x0 : w9.cell? ⟨qb, 0, none⟩ = some (.int .i64 t) := (Q3x.out.below hb9).at_ 0
        have x1 : w9.cell? ⟨qb, 1, none⟩ = some (.int .i64 b) := (Q3x.out.below hb9).at_ 1
        have x2 : w9.cell? ⟨qb, 2, none⟩ = some (.int .i64 r) := (Q3x.out.below hb9).at_ 2
        have x3 : w9.cell? ⟨qb, 3, none⟩ = some (.int .i64 c) := (Q3x.out.below hb9).at_ 3))
  go_wp2
  go_ret
  exact ⟨rfl, B3.out.trans (hb9.mono B3.out.size)⟩
end Go.Proofs.YtplifdmfoeejaaaGreat
