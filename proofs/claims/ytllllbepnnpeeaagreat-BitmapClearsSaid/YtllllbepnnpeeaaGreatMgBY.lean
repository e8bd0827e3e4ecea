/-
  The keep's Short, of one and of two lists of numbers.
  The walk of the statement BitmapClears: it returns true.
-/
import Derived.Test.YtllllbepnnpeeaaGreatMgAA
import Derived.LoopTactic
import Derived.Test.YtllllbepnnpeeaaGreatMatclearer
import Derived.Test.YtllllbepnnpeeaaGreatMgBJ
import Derived.Test.YtllllbepnnpeeaaGreatAw12
import Derived.Test.YtllllbepnnpeeaaGreatMgBV
import Derived.Deep.Cut
import Derived.Deep.CutRange
namespace Go.Proofs.YtllllbepnnpeeaaGreat
open Go Go.RowKit
set_option linter.unusedSimpArgs false

theorem short1_any {w : World} {g : Nat} {a : Option Addr} {n c : Nat} (h : Blk w g 23 #[.slice a n c]) (hn : n ≤ 9223372036854775807) :
    Calls Tryz.prog 8 #[.slice none 0 0, .slice (some ⟨g, 0, none⟩) 1 1] w fun e w' => e = .returned (.bool (decide ((n : Int) ≤ 400))) ∧ w = w' := by
  have c0 : w.cell? ⟨g, 0, none⟩ = some (.slice a n c) := h.at_ 0
  clear h
  by_cases hb : n ≤ 400
  · have hd : decide (400 < (n : Int)) = false := decide_eq_false (by omega)
    rw [decide_eq_true (by omega : (n : Int) ≤ 400)]
    go_enter Tryz.func8, Tryz.ntmps8
    go_wp2_with fail
    go_loopw [5] (fun i wr => ∃ j : Nat, j ≤ 1 ∧ i = .int .i64 j ∧ wr = w) (fun i _ => 1 - (intOf i).toNat)
    case atStart => exact ⟨0, by omega, rfl, rfl⟩
    case round =>
      obtain ⟨j, hj, rfl, rfl⟩ := hrel
      rcases (show j = 0 ∨ j = 1 by omega) with rfl | rfl
      · go_wp2_with fail
        go_roundw
        case rel => exact ⟨1, by omega, by go_num, by first | trivial | rfl⟩
        case measure => simp [intOf]
      · go_wp2
        go_ret
        exact ⟨rfl, rfl⟩
  · have hd : decide (400 < (n : Int)) = true := decide_eq_true (by omega)
    rw [decide_eq_false (by omega : ¬ (n : Int) ≤ 400)]
    go_enter Tryz.func8, Tryz.ntmps8
    go_wp2_with fail
    go_loopw [5] (fun i wr => i = .int .i64 0 ∧ wr = w) (fun i _ => 1 - (intOf i).toNat)
    case atStart => exact ⟨rfl, rfl⟩
    case round =>
      obtain ⟨rfl, rfl⟩ := hrel
      go_wp2
      go_ret
      exact ⟨rfl, rfl⟩
theorem short2_any {w : World} {g : Nat} {a b : Option Addr} {n c n' c' : Nat} (h : Blk w g 23 #[.slice a n c, .slice b n' c']) (hn : n ≤ 9223372036854775807) (hn' : n' ≤ 9223372036854775807) :
    Calls Tryz.prog 8 #[.slice none 0 0, .slice (some ⟨g, 0, none⟩) 2 2] w fun e w' => e = .returned (.bool (decide ((n : Int) ≤ 400) && decide ((n' : Int) ≤ 400))) ∧ w = w' := by
  have c0 : w.cell? ⟨g, 0, none⟩ = some (.slice a n c) := h.at_ 0
  have c1 : w.cell? ⟨g, 1, none⟩ = some (.slice b n' c') := h.at_ 1
  clear h
  by_cases hb : n ≤ 400
  case neg =>
    have hd : decide (400 < (n : Int)) = true := decide_eq_true (by omega)
    rw [decide_eq_false (by omega : ¬ (n : Int) ≤ 400), Bool.false_and]
    go_enter Tryz.func8, Tryz.ntmps8
    go_wp2_with fail
    go_loopw [5] (fun i wr => i = .int .i64 0 ∧ wr = w) (fun i _ => 1 - (intOf i).toNat)
    case atStart => exact ⟨rfl, rfl⟩
    case round =>
      obtain ⟨rfl, rfl⟩ := hrel
      go_wp2
      go_ret
      exact ⟨rfl, rfl⟩
  have hd : decide (400 < (n : Int)) = false := decide_eq_false (by omega)
  rw [decide_eq_true (by omega : (n : Int) ≤ 400), Bool.true_and]
  by_cases hb' : n' ≤ 400
  · have hd' : decide (400 < (n' : Int)) = false := decide_eq_false (by omega)
    rw [decide_eq_true (by omega : (n' : Int) ≤ 400)]
    go_enter Tryz.func8, Tryz.ntmps8
    go_wp2_with fail
    go_loopw [5] (fun i wr => ∃ j : Nat, j ≤ 2 ∧ i = .int .i64 j ∧ wr = w) (fun i _ => 2 - (intOf i).toNat)
    case atStart => exact ⟨0, by omega, rfl, rfl⟩
    case round =>
      obtain ⟨j, hj, rfl, rfl⟩ := hrel
      rcases (show j = 0 ∨ j = 1 ∨ j = 2 by omega) with rfl | rfl | rfl
      · go_wp2_with fail
        go_roundw
        case rel => exact ⟨1, by omega, by go_num, by first | trivial | rfl⟩
        case measure => simp [intOf]
      · go_wp2_with fail
        go_roundw
        case rel => exact ⟨2, by omega, by go_num, by first | trivial | rfl⟩
        case measure => simp [intOf]
      · go_wp2
        go_ret
        exact ⟨rfl, rfl⟩
  · have hd' : decide (400 < (n' : Int)) = true := decide_eq_true (by omega)
    rw [decide_eq_false (by omega : ¬ (n' : Int) ≤ 400)]
    go_enter Tryz.func8, Tryz.ntmps8
    go_wp2_with fail
    go_loopw [5] (fun i wr => ∃ j : Nat, j ≤ 1 ∧ i = .int .i64 j ∧ wr = w) (fun i _ => 1 - (intOf i).toNat)
    case atStart => exact ⟨0, by omega, rfl, rfl⟩
    case round =>
      obtain ⟨j, hj, rfl, rfl⟩ := hrel
      rcases (show j = 0 ∨ j = 1 by omega) with rfl | rfl
      · go_wp2_with fail
        go_roundw
        case rel => exact ⟨1, by omega, by go_num, by first | trivial | rfl⟩
        case measure => simp [intOf]
      · go_wp2
        go_ret
        exact ⟨rfl, rfl⟩
end Go.Proofs.YtllllbepnnpeeaaGreat

namespace Go.Proofs.YtllllbepnnpeeaaGreat
open Go Go.RowKit Go.Shelf
set_option linter.unusedSimpArgs false
set_option linter.unusedVariables false

/-- The comparison begins. -/
theorem ms_start_clearer {W0 w w1 w2 : World} {p m k g n : Nat} {q ag acap : Nat} {s : St} {c b t bo r kk : Int} {x y gy cy : Nat} (hd : Duo w W0.heap.size p m k g n hd0 nilV nilV q (bareA ag acap) s s 0 0 [] [] [] []) (hn : s.N) (hc : 0 ≤ s.c ∧ s.c ≤ 1000) (hb : Below W0.heap.size W0 w)
    (h1 : Below w.heap.size w w1) (ho : OB w1 x 146 [.int .i64 c, .int .u64 (maskS b)] (fraC c b t bo r kk) 0 0) (hx : w.heap.size ≤ x) (h2 : Below w1.heap.size w1 w2) (hm : Mach1 w1.heap.size w2 y gy cy [] (fraC c b t bo r kk)) (hk : kk ≤ 9223372036854775807) :
    MS W0 StealOk 4 146 W0.heap.size p m k g n hd0 nilV nilV q y gy cy [] 0 [] [] s (fraC c b t bo r kk) (bareA ag acap) 1000 0 x (ocells (fraC c b t bo r kk) 0 0 ++ ([.int .i64 c, .int .u64 (maskS b)] : List Value)).toArray w2 := by
  have s1 := hb.size
  have s2 := h1.size
  have hbm := hm.bm
  have hbg := hm.bg
  exact ⟨(hd.below h1).below h2, (ho.below h2).blk, ⟨hm.blk, hm.fr, by omega, by omega, hm.hc⟩, hn, ⟨.inl rfl, Int.le_refl _, Int.le_refl _, hk⟩, rfl, hc, ⟨Int.le_refl _, Int.le_refl _⟩, hb.trans ((h1.trans (h2.mono s2)).mono s1), by omega, rfl⟩

set_option maxRecDepth 100000 in
set_option maxHeartbeats 16000000 in
theorem clears12_law {w : World} {ca na : Option Addr} {cn nn : Nat} {cz nz : List Int} (cc nc : Nat) (ce bi n : Int) (near : Bool) (hc : InW w ca cn cz ∧ ∀ x, x ∈ cz → 0 ≤ x) (hz : InInts w na nn nz) (hk : n ≤ 9223372036854775807) :
    Calls Tryz.prog 6 #[.slice ca cn cc, .int .i64 ce, .int .i64 bi, .int .i64 n, .slice na nn nc, .bool near] w fun e w' => e = .returned (.bool true) ∧ Below w.heap.size w w' := by
  have hmc := hc.1.2.1
  have hmz := hz.2.1
  unfold maxLen at hmc hmz
  have HC := Lib.hid hc
  have HZ := Lib.hid hz
  have HKK := Lib.hid hk
  clear hc hz hk
  by_cases h40 : 40 < cn
  · go_enter Tryz.func6, Tryz.ntmps6
    go_wp2
    go_ret
    exact ⟨rfl, Below.refl _ _⟩
  have h41 : decide (40 < (cn : Int)) = false := decide_eq_false (by omega)
  obtain ⟨sb, hsb⟩ : ∃ sb, decide ((nn : Int) ≤ 400) = sb := ⟨_, rfl⟩
  have HSB := Lib.hid hsb
  clear hsb
  have hX := Blk.made w 23 #[.slice na nn nc]
  have HS := Lib.hid (short1_any hX (by omega))
  rw [HSB.out] at HS
  have B1 := Lib.hid (below_one w (.cells #[.slice na nn nc] 23))
  clear hX
  go_enter Tryz.func6, Tryz.ntmps6
  go_wp2_with fail
  (with_reducible refine HS.out.mono ?_)
  rintro e w1 ⟨rfl, rfl⟩
  generalize w.alloc (.cells #[.slice na nn nc] 23) = W1 at *
  cases sb with
  | false =>
    go_wp2
    go_ret
    exact ⟨rfl, B1.out⟩
  | true =>
  clear HS
  go_upto_if 26 with fail
  go_cut [1, 2] from 26 to 37 (fun v1 v2 wx => ∃ c b : Int, v1 = .int .i64 c ∧ v2 = .int .i64 b ∧ Below w.heap.size w wx)
  case first =>
    cases near with
    | false =>
      go_wp2_with fail
      go_meet
      case rel => exact ⟨ce, bi, rfl, rfl, B1.out⟩
    | true =>
      go_wp2_with fail
      have I0 := Lib.hid (ints_lone W1 ce)
      have hb0 := below_one W1 (.cells #[.int .i64 ce] 3)
      (with_reducible refine (keepnum0 I0.out 1 ((cn : Int) + 2) (by omega) (by omega)).mono ?_)
      rintro e u0 ⟨y0, hy0, rfl, nd0, rfl⟩
      have B1b := Lib.hid (B1.out.trans ((hb0.trans ((below_drewN (W1.alloc (.cells #[.int .i64 ce] 3)) nd0).mono hb0.size)).mono B1.out.size))
      clear I0 hb0
      generalize (W1.alloc (.cells #[.int .i64 ce] 3)).drewN nd0 = V1 at *
      go_wp2_with fail
      have I1 := Lib.hid (ints_lone V1 bi)
      have hb1 := below_one V1 (.cells #[.int .i64 bi] 3)
      (with_reducible refine (keepnum0 I1.out 1 66 (by omega) (by omega)).mono ?_)
      rintro e u1 ⟨y1, hy1, rfl, nd1, rfl⟩
      have B2 := Lib.hid (B1b.out.trans ((hb1.trans ((below_drewN (V1.alloc (.cells #[.int .i64 bi] 3)) nd1).mono hb1.size)).mono B1b.out.size))
      clear I1 hb1 B1b
      generalize (V1.alloc (.cells #[.int .i64 bi] 3)).drewN nd1 = V2 at *
      go_wp2_with fail
      go_meet
      case rel => exact ⟨_, _, rfl, rfl, B2.out⟩
  case rest =>
  clear B1
  obtain ⟨c, b, rfl, rfl, hb2⟩ := hcut
  have B2 := Lib.hid hb2
  clear hb2
  go_wp2_with fail
  (with_reducible refine (queue_any n _).mono ?_)
  rintro e w2 ⟨rfl, hb3⟩
  have B3 := Lib.hid (B2.out.trans (hb3.mono B2.out.size))
  clear hb3 B2
  go_upto_region 6 with fail
  have Q4 := Lib.hid (Blk.made w2 52 (qcells 0 1 2 n))
  have B4 := Lib.hid (B3.out.alloc B3.out.size (.cells (qcells 0 1 2 n) 52))
  generalize w2.alloc (.cells (qcells 0 1 2 n) 52) = W3 at *
  generalize w2.heap.size = qb at *
  clear B3
  go_wp2_with fail
  (with_reducible refine (mbare_any (HC.out.1.below B4.out) cc (by omega)).mono ?_)
  rintro e w5 ⟨p, m, k, g, q, ag, acap, s, rfl, hd, hsX, hsc, hb5⟩
  have D5 := Lib.hid hd
  have S5 := Lib.hid (And.intro (Row.inNN HC.out.2 hsX) (show 0 ≤ s.c ∧ s.c ≤ 1000 by omega))
  have Q5 := Lib.hid (Q4.out.below hb5)
  have B5 := Lib.hid hb5
  have Q3x := Q4
  have Z4 := Lib.hid (HZ.out.below B4.out)
  clear hd hsX hsc hb5 Q4
  go_wp2_with fail
  have D5d := Lib.hid (D5.out.drewN 1)
  have Q5d := Lib.hid (Q5.out.below (below_drew (Below.refl _ _)))
  have B5d := Lib.hid (below_drew B5.out)
  clear D5 Q5 B5
  have y0 : w5.drew.cell? ⟨qb, 0, none⟩ = some (.int .i64 0) := Q5d.out.at_ 0
  have y1 : w5.drew.cell? ⟨qb, 1, none⟩ = some (.int .i64 1) := Q5d.out.at_ 1
  have y2 : w5.drew.cell? ⟨qb, 2, none⟩ = some (.int .i64 2) := Q5d.out.at_ 2
  have y3 : w5.drew.cell? ⟨qb, 3, none⟩ = some (.int .i64 n) := Q5d.out.at_ 3
  go_region_held3 (fun w' => w'.cell? ⟨qb, 0, none⟩ = some (.int .i64 0) ∧ w'.cell? ⟨qb, 1, none⟩ = some (.int .i64 1) ∧ w'.cell? ⟨qb, 2, none⟩ = some (.int .i64 2) ∧ w'.cell? ⟨qb, 3, none⟩ = some (.int .i64 n)) ((first | exact ⟨x0, x1, x2, x3⟩ | exact ⟨z0, z1, z2, z3⟩ | exact ⟨v0, v1, v2, v3⟩ | exact ⟨u0, u1, u2, u3⟩ | exact ⟨y0, y1, y2, y3⟩ | go_keep))
    (first
     | (go_at_call 18
        refine (awake12_any _).mono ?_
        rintro e w6 ⟨rfl, hb6⟩
        have D6 := Lib.hid (D5d.out.below hb6)
        have Q6 := Lib.hid (Q5d.out.below hb6)
        have B6 := Lib.hid (B5d.out.trans (hb6.mono B5d.out.size))
        have u0 : w6.cell? ⟨qb, 0, none⟩ = some (.int .i64 0) := Q6.out.at_ 0
        have u1 : w6.cell? ⟨qb, 1, none⟩ = some (.int .i64 1) := Q6.out.at_ 1
        have u2 : w6.cell? ⟨qb, 2, none⟩ = some (.int .i64 2) := Q6.out.at_ 2
        have u3 : w6.cell? ⟨qb, 3, none⟩ = some (.int .i64 n) := Q6.out.at_ 3)
     | (go_at_call 23
        refine (bClear_any c b 0 1 2 n _).mono ?_
        rintro e w7 ⟨x, rfl, ho, hx, hb7⟩
        have Q7 := Lib.hid (Q6.out.below hb7)
        have v0 : w7.cell? ⟨qb, 0, none⟩ = some (.int .i64 0) := Q7.out.at_ 0
        have v1 : w7.cell? ⟨qb, 1, none⟩ = some (.int .i64 1) := Q7.out.at_ 1
        have v2 : w7.cell? ⟨qb, 2, none⟩ = some (.int .i64 2) := Q7.out.at_ 2
        have v3 : w7.cell? ⟨qb, 3, none⟩ = some (.int .i64 n) := Q7.out.at_ 3)
     | (go_at_call 21
        refine (make_any { fraC c b 0 1 2 n with ln := 0 } _ (by rfl)).mono ?_
        rintro e w8 ⟨y, gy, cy, rfl, hm, hb8⟩
        have Q8 := Lib.hid (Q7.out.below hb8)
        have M8 := Lib.hid (ms_start_clearer D6.out S5.out.1 S5.out.2 B6.out hb7 ho hx hb8 hm HKK.out)
        have z0 : w8.cell? ⟨qb, 0, none⟩ = some (.int .i64 0) := Q8.out.at_ 0
        have z1 : w8.cell? ⟨qb, 1, none⟩ = some (.int .i64 1) := Q8.out.at_ 1
        have z2 : w8.cell? ⟨qb, 2, none⟩ = some (.int .i64 2) := Q8.out.at_ 2
        have z3 : w8.cell? ⟨qb, 3, none⟩ = some (.int .i64 n) := Q8.out.at_ 3)
     | (go_at_call 19
        refine (match_clearer M8.out (by omega) (by omega) (by simp) Z4.out).mono ?_
        rintro e w9 ⟨rfl, hb9⟩
        have x0 : w9.cell? ⟨qb, 0, none⟩ = some (.int .i64 0) := (Q3x.out.below hb9).at_ 0
        have x1 : w9.cell? ⟨qb, 1, none⟩ = some (.int .i64 1) := (Q3x.out.below hb9).at_ 1
        have x2 : w9.cell? ⟨qb, 2, none⟩ = some (.int .i64 2) := (Q3x.out.below hb9).at_ 2
        have x3 : w9.cell? ⟨qb, 3, none⟩ = some (.int .i64 n) := (Q3x.out.below hb9).at_ 3))
  go_wp2
  go_ret
  exact ⟨rfl, B4.out.trans (hb9.mono B4.out.size)⟩
end Go.Proofs.YtllllbepnnpeeaaGreat
