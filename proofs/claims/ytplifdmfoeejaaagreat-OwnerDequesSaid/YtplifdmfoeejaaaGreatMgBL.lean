/-
  The keep's Short, of one and of two lists of numbers.
  The walk of the statement ThiefDeques: it returns true. (Written by wip/gen_l10.py.)
  The keep's Number of one number.
  The keep's Deque once more, with what its entries meet; the keep's Number of a lone number, told.
-/
import Derived.Test.YtplifdmfoeejaaaGreatMgAA
import Derived.LoopTactic
import Derived.Test.YtplifdmfoeejaaaGreatMatstealer
import Derived.Test.YtplifdmfoeejaaaGreatMgBE
import Derived.Test.YtplifdmfoeejaaaGreatMgBK
import Derived.Test.YtplifdmfoeejaaaGreatDeq
namespace Go.Proofs.YtplifdmfoeejaaaGreat
open Go Go.RowKit
set_option linter.unusedSimpArgs false

theorem short1_any {w : World} {g : Nat} {a : Option Addr} {n c : Nat} (h : Blk w g 24 #[.slice a n c]) (hn : n ≤ 9223372036854775807) :
    Calls Tryz.prog 8 #[.slice none 0 0, .slice (some ⟨g, 0, none⟩) 1 1] w fun e w' => e = .returned (.bool (decide ((n : Int) ≤ 400))) ∧ w = w' := by
  have c0 : w.cell? ⟨g, 0, none⟩ = some (.slice a n c) := h.at_ 0
  clear h
  by_cases hb : n ≤ 400
  · have hd : decide (400 < (n : Int)) = false := decide_eq_false (by omega)
    rw [decide_eq_true (by omega : (n : Int) ≤ 400)]
    go_enter Tryz.func8, Tryz.ntmps8
    go_wp2_with fail
    go_loopw [5] (fun i wr => ∃ j : Nat, j ≤ 1 ∧ i = .int .i64 j ∧ wr = w) (fun i _ => 1 - (intOf i).toNat)
    case atStart => exact ⟨0, by omega, rfl, rfl⟩
    case round =>
      obtain ⟨j, hj, rfl, rfl⟩ := hrel
      rcases (show j = 0 ∨ j = 1 by omega) with rfl | rfl
      · go_wp2_with fail
        go_roundw
        case rel => exact ⟨1, by omega, by go_num, by first | trivial | rfl⟩
        case measure => simp [intOf]
      · go_wp2
        go_ret
        exact ⟨rfl, rfl⟩
  · have hd : decide (400 < (n : Int)) = true := decide_eq_true (by omega)
    rw [decide_eq_false (by omega : ¬ (n : Int) ≤ 400)]
    go_enter Tryz.func8, Tryz.ntmps8
    go_wp2_with fail
    go_loopw [5] (fun i wr => i = .int .i64 0 ∧ wr = w) (fun i _ => 1 - (intOf i).toNat)
    case atStart => exact ⟨rfl, rfl⟩
    case round =>
      obtain ⟨rfl, rfl⟩ := hrel
      go_wp2
      go_ret
      exact ⟨rfl, rfl⟩
theorem short2_any {w : World} {g : Nat} {a b : Option Addr} {n c n' c' : Nat} (h : Blk w g 24 #[.slice a n c, .slice b n' c']) (hn : n ≤ 9223372036854775807) (hn' : n' ≤ 9223372036854775807) :
    Calls Tryz.prog 8 #[.slice none 0 0, .slice (some ⟨g, 0, none⟩) 2 2] w fun e w' => e = .returned (.bool (decide ((n : Int) ≤ 400) && decide ((n' : Int) ≤ 400))) ∧ w = w' := by
  have c0 : w.cell? ⟨g, 0, none⟩ = some (.slice a n c) := h.at_ 0
  have c1 : w.cell? ⟨g, 1, none⟩ = some (.slice b n' c') := h.at_ 1
  clear h
  by_cases hb : n ≤ 400
  case neg =>
    have hd : decide (400 < (n : Int)) = true := decide_eq_true (by omega)
    rw [decide_eq_false (by omega : ¬ (n : Int) ≤ 400), Bool.false_and]
    go_enter Tryz.func8, Tryz.ntmps8
    go_wp2_with fail
    go_loopw [5] (fun i wr => i = .int .i64 0 ∧ wr = w) (fun i _ => 1 - (intOf i).toNat)
    case atStart => exact ⟨rfl, rfl⟩
    case round =>
      obtain ⟨rfl, rfl⟩ := hrel
      go_wp2
      go_ret
      exact ⟨rfl, rfl⟩
  have hd : decide (400 < (n : Int)) = false := decide_eq_false (by omega)
  rw [decide_eq_true (by omega : (n : Int) ≤ 400), Bool.true_and]
  by_cases hb' : n' ≤ 400
  · have hd' : decide (400 < (n' : Int)) = false := decide_eq_false (by omega)
    rw [decide_eq_true (by omega : (n' : Int) ≤ 400)]
    go_enter Tryz.func8, Tryz.ntmps8
    go_wp2_with fail
    go_loopw [5] (fun i wr => ∃ j : Nat, j ≤ 2 ∧ i = .int .i64 j ∧ wr = w) (fun i _ => 2 - (intOf i).toNat)
    case atStart => exact ⟨0, by omega, rfl, rfl⟩
    case round =>
      obtain ⟨j, hj, rfl, rfl⟩ := hrel
      rcases (show j = 0 ∨ j = 1 ∨ j = 2 by omega) with rfl | rfl | rfl
      · go_wp2_with fail
        go_roundw
        case rel => exact ⟨1, by omega, by go_num, by first | trivial | rfl⟩
        case measure => simp [intOf]
      · go_wp2_with fail
        go_roundw
        case rel => exact ⟨2, by omega, by go_num, by first | trivial | rfl⟩
        case measure => simp [intOf]
      · go_wp2
        go_ret
        exact ⟨rfl, rfl⟩
  · have hd' : decide (400 < (n' : Int)) = true := decide_eq_true (by omega)
    rw [decide_eq_false (by omega : ¬ (n' : Int) ≤ 400)]
    go_enter Tryz.func8, Tryz.ntmps8
    go_wp2_with fail
    go_loopw [5] (fun i wr => ∃ j : Nat, j ≤ 1 ∧ i = .int .i64 j ∧ wr = w) (fun i _ => 1 - (intOf i).toNat)
    case atStart => exact ⟨0, by omega, rfl, rfl⟩
    case round =>
      obtain ⟨j, hj, rfl, rfl⟩ := hrel
      rcases (show j = 0 ∨ j = 1 by omega) with rfl | rfl
      · go_wp2_with fail
        go_roundw
        case rel => exact ⟨1, by omega, by go_num, by first | trivial | rfl⟩
        case measure => simp [intOf]
      · go_wp2
        go_ret
        exact ⟨rfl, rfl⟩
end Go.Proofs.YtplifdmfoeejaaaGreat

namespace Go.Proofs.YtplifdmfoeejaaaGreat
open Go Go.RowKit Go.Shelf
set_option linter.unusedSimpArgs false
set_option linter.unusedVariables false

/-- The comparison begins. -/
theorem ms_start_stealer {W0 w w1 w2 : World} {p m k g n : Nat} {q ag acap : Nat} {s : St} {t b r c : Int} {x y gy cy : Nat} (hd : Duo w W0.heap.size p m k g n hd0 nilV nilV q (bareA ag acap) s s 0 0 [] [] [] []) (hn : s.N) (hc : 0 ≤ s.c ∧ s.c ≤ 1000) (hb : Below W0.heap.size W0 w)
    (h1 : Below w.heap.size w w1) (ho : OB w1 x 104 [.int .u64 0] (fra1 2 t b r c 0) 0 0) (hx : w.heap.size ≤ x) (h2 : Below w1.heap.size w1 w2) (hm : Mach1 w1.heap.size w2 y gy cy [] (fra1 2 t b r c 0)) (hk : c ≤ 100) :
    MS W0 StealOk 2 104 W0.heap.size p m k g n hd0 nilV nilV q y gy cy [] 0 [] [] s (fra1 2 t b r c 0) (bareA ag acap) 1000 0 x (ocells (fra1 2 t b r c 0) 0 0 ++ ([.int .u64 0] : List Value)).toArray w2 := by
  have s1 := hb.size
  have s2 := h1.size
  have hbm := hm.bm
  have hbg := hm.bg
  refine ⟨(hd.below h1).below h2, (ho.below h2).blk, ⟨hm.blk, hm.fr, by omega, by omega, hm.hc⟩, hn, ⟨.inl rfl, Int.le_refl _, Int.le_refl _, ?_⟩, rfl, hc, ⟨Int.le_refl _, Int.le_refl _⟩, hb.trans ((h1.trans (h2.mono s2)).mono s1), by omega, rfl⟩
  show c ≤ _
  omega


set_option maxRecDepth 100000 in
set_option maxHeartbeats 16000000 in
theorem tdeques_law {w : World} {va na : Option Addr} {vn nn : Nat} {vz nz : List Int} (n sz : Int) (t : Nat) (vc nc : Nat) (hn : 0 ≤ n ∧ n ≤ 255) (hsz : 0 ≤ sz ∧ sz ≤ 255) (ht : t < 18446744073709551616) (hv : InInts w va vn vz) (hz : InInts w na nn nz) :
    Calls Tryz.prog 7 #[.int .u8 n, .int .u8 sz, .int .u64 t, .slice va vn vc, .slice na nn nc] w fun e w' => e = .returned (.bool true) ∧ Below w.heap.size w w' := by
  have hb0 := below_one w (.cells #[.slice va vn vc, .slice na nn nc] 24)
  have hX := Blk.made w 24 #[.slice va vn vc, .slice na nn nc]
  have hmv := hv.2.1
  have hmz := hz.2.1
  unfold maxLen at hmv hmz
  have HS := Lib.hid (short2_any hX (by omega) (by omega))
  have B0 := Lib.hid hb0
  have HV := Lib.hid hv
  have HZ := Lib.hid hz
  obtain ⟨sb, hsb⟩ : ∃ sb, (decide ((vn : Int) ≤ 400) && decide ((nn : Int) ≤ 400)) = sb := ⟨_, rfl⟩
  rw [hsb] at HS
  clear hX hb0 hv hz hsb
  obtain ⟨C, hC, hC2⟩ : ∃ C : Nat, 1 + n % 6 = (C : Int) ∧ (1 ≤ C ∧ C ≤ 6) := ⟨(1 + n % 6).toNat, by omega, by omega⟩
  obtain ⟨K, hK, hK2⟩ : ∃ K : Nat, sz % ((C : Int) + 1) = (K : Int) ∧ K ≤ C := by
    have h1 := Int.emod_nonneg sz (show ((C : Int) + 1) ≠ 0 by omega)
    have h2 := Int.emod_lt_of_pos sz (show (0 : Int) < (C : Int) + 1 by omega)
    exact ⟨(sz % ((C : Int) + 1)).toNat, by omega, by omega⟩
  have HC := Lib.hid (And.intro hC2 hK2)
  go_enter Tryz.func7, Tryz.ntmps7
  go_wp2_with fail
  (with_reducible refine HS.out.mono ?_)
  rintro e w1 ⟨rfl, rfl⟩
  cases sb with
  | false =>
    go_wp2
    go_ret
    exact ⟨rfl, B0.out⟩
  | true =>
  go_wp2_with fail
  (with_reducible refine (queue_any C _).mono ?_)
  rintro e w2 ⟨rfl, hb2⟩
  have B2 := Lib.hid (B0.out.trans (hb2.mono B0.out.size))
  clear hb2 B0 HS
  go_upto_region 5 with fail
  have Q3 := Lib.hid (Blk.made w2 27 (qcells 0 1 2 C))
  have B3 := Lib.hid (B2.out.alloc B2.out.size (.cells (qcells 0 1 2 C) 27))
  generalize w2.alloc (.cells (qcells 0 1 2 C) 27) = W3 at *
  generalize w2.heap.size = qb at *
  clear B2
  go_wp2_with fail
  (with_reducible refine (deque_any (HV.out.below B3.out) vc C t K (by omega) ht hK2).mono ?_)
  rintro e w4 ⟨gd, X, l, rfl, hr4, hX, hg4, hb4, _, _, _⟩
  have Q4 := Lib.hid (Q3.out.below hb4)
  have B4 := Lib.hid (B3.out.trans (hb4.mono B3.out.size))
  have R4 := Lib.hid hr4
  have HXX := Lib.hid hX
  clear hr4 hX hg4 hb4 Q3 B3
  go_wp2_with fail
  (with_reducible refine (mbare_any R4.out.inW (C + 3) (by omega)).mono ?_)
  rintro e w5 ⟨p, m, k, g, q, ag, acap, s, rfl, hd, hsX, hsc, hb5⟩
  have D5 := Lib.hid hd
  have S5 := Lib.hid (And.intro (Row.inNN HXX.out hsX) (show 0 ≤ s.c ∧ s.c ≤ 1000 by omega))
  have Q5 := Lib.hid (Q4.out.below hb5)
  have Q4x := Q4
  have B5 := Lib.hid hb5
  clear hd hsX hsc hb5 Q4 HXX R4
  have Z4 := Lib.hid (HZ.out.below B4.out)
  have hCk : (C : Int) ≤ 100 := by omega
  go_wp2_with fail
  have D5d := Lib.hid (D5.out.drewN 1)
  have Q5d := Lib.hid (Q5.out.below (below_drew (Below.refl _ _)))
  have B5d := Lib.hid (below_drew B5.out)
  clear D5 Q5 B5
  have y0 : w5.drew.cell? ⟨qb, 0, none⟩ = some (.int .i64 0) := Q5d.out.at_ 0
  have y1 : w5.drew.cell? ⟨qb, 1, none⟩ = some (.int .i64 1) := Q5d.out.at_ 1
  have y2 : w5.drew.cell? ⟨qb, 2, none⟩ = some (.int .i64 2) := Q5d.out.at_ 2
  have y3 : w5.drew.cell? ⟨qb, 3, none⟩ = some (.int .i64 C) := Q5d.out.at_ 3
  go_region_held3 (fun w' => w'.cell? ⟨qb, 0, none⟩ = some (.int .i64 0) ∧ w'.cell? ⟨qb, 1, none⟩ = some (.int .i64 1) ∧ w'.cell? ⟨qb, 2, none⟩ = some (.int .i64 2) ∧ w'.cell? ⟨qb, 3, none⟩ = some (.int .i64 C)) ((first | exact ⟨x0, x1, x2, x3⟩ | exact ⟨z0, z1, z2, z3⟩ | exact ⟨v0, v1, v2, v3⟩ | exact ⟨u0, u1, u2, u3⟩ | exact ⟨y0, y1, y2, y3⟩ | go_keep))
    (first
     | (go_at_call 19
        refine (awake10_any _).mono ?_
        rintro e w6 ⟨rfl, hb6⟩
        have D6 := Lib.hid (D5d.out.below hb6)
        have Q6 := Lib.hid (Q5d.out.below hb6)
        have B6 := Lib.hid (B5d.out.trans (hb6.mono B5d.out.size))
        have u0 : w6.cell? ⟨qb, 0, none⟩ = some (.int .i64 0) := Q6.out.at_ 0
        have u1 : w6.cell? ⟨qb, 1, none⟩ = some (.int .i64 1) := Q6.out.at_ 1
        have u2 : w6.cell? ⟨qb, 2, none⟩ = some (.int .i64 2) := Q6.out.at_ 2
        have u3 : w6.cell? ⟨qb, 3, none⟩ = some (.int .i64 C) := Q6.out.at_ 3)
     | (go_at_call 20
        refine (oSteal_any 0 1 2 C _).mono ?_
        rintro e w7 ⟨x, rfl, ho, hx, hb7⟩
        have Q7 := Lib.hid (Q6.out.below hb7)
        have v0 : w7.cell? ⟨qb, 0, none⟩ = some (.int .i64 0) := Q7.out.at_ 0
        have v1 : w7.cell? ⟨qb, 1, none⟩ = some (.int .i64 1) := Q7.out.at_ 1
        have v2 : w7.cell? ⟨qb, 2, none⟩ = some (.int .i64 2) := Q7.out.at_ 2
        have v3 : w7.cell? ⟨qb, 3, none⟩ = some (.int .i64 C) := Q7.out.at_ 3)
     | (go_at_call 14
        refine (make_any { fra1 2 0 1 2 C 0 with ln := 0 } _ (by rfl)).mono ?_
        rintro e w8 ⟨y, gy, cy, rfl, hm, hb8⟩
        have Q8 := Lib.hid (Q7.out.below hb8)
        have M8 := Lib.hid (ms_start_stealer D6.out S5.out.1 S5.out.2 B6.out hb7 ho hx hb8 hm hCk)
        have z0 : w8.cell? ⟨qb, 0, none⟩ = some (.int .i64 0) := Q8.out.at_ 0
        have z1 : w8.cell? ⟨qb, 1, none⟩ = some (.int .i64 1) := Q8.out.at_ 1
        have z2 : w8.cell? ⟨qb, 2, none⟩ = some (.int .i64 2) := Q8.out.at_ 2
        have z3 : w8.cell? ⟨qb, 3, none⟩ = some (.int .i64 C) := Q8.out.at_ 3)
     | (go_at_call 12
        refine (match_stealer M8.out (by omega) (by omega) (by simp) Z4.out).mono ?_
        rintro e w9 ⟨rfl, hb9⟩
        have x0 : w9.cell? ⟨qb, 0, none⟩ = some (.int .i64 0) := (Q4x.out.below hb9).at_ 0
        have x1 : w9.cell? ⟨qb, 1, none⟩ = some (.int .i64 1) := (Q4x.out.below hb9).at_ 1
        have x2 : w9.cell? ⟨qb, 2, none⟩ = some (.int .i64 2) := (Q4x.out.below hb9).at_ 2
        have x3 : w9.cell? ⟨qb, 3, none⟩ = some (.int .i64 C) := (Q4x.out.below hb9).at_ 3))
  go_wp2
  go_ret
  exact ⟨rfl, B4.out.trans (hb9.mono B4.out.size)⟩
end Go.Proofs.YtplifdmfoeejaaaGreat

namespace Go.Proofs.YtplifdmfoeejaaaGreat
open Go Go.RowKit

theorem ints_lone (w : World) (z : Int) : InInts (w.alloc (.cells #[.int .i64 z] 3)) (some ⟨w.heap.size, 0, none⟩) 1 [z] := by
  have hB := Blk.made w 3 #[.int .i64 z]
  refine ⟨rfl, by unfold maxLen; omega, fun i hi => ⟨_, rfl, hB.lt, ?_⟩⟩
  obtain rfl : i = 0 := by omega
  have e : (⟨w.heap.size, 0, none⟩ : Addr).add 0 = ⟨w.heap.size, 0, none⟩ := by unfold Addr.add; rfl
  rw [e, hB.at_]
  rfl
theorem keepnum0 {w : World} {a : Option Addr} {L : Nat} {zs : List Int} (h : InInts w a L zs) (c : Nat) (n : Int) (hn : 1 ≤ n) (hn' : n ≤ 1000000) :
    Calls Tryz.prog 18 #[.slice a L c, .int .i64 0, .int .i64 n] w (NumR n w) := keepnum_any h c 0 (by omega) n hn hn'
end Go.Proofs.YtplifdmfoeejaaaGreat

namespace Go.Proofs.YtplifdmfoeejaaaGreat
open Go Go.RowKit Go.Shelf
set_option linter.unusedSimpArgs false
set_option linter.unusedVariables false

/-- The number at place k. -/
def numk (z : Int) (k L : Nat) (n : Int) : Int := drw (wrap64 (z.tdiv (1 + (k : Int) / (L : Int) % 7))) n
set_option maxHeartbeats 1000000 in
theorem keepnum_told {w : World} {a : Option Addr} {L : Nat} {zs : List Int} (h : InInts w a L zs) (c k : Nat) (hk : k ≤ 1000000) (hL : L ≠ 0) (n : Int) (hn : 1 ≤ n) (hn' : n ≤ 1000000) :
    Calls Tryz.prog 18 #[.slice a L c, .int .i64 k, .int .i64 n] w fun e w' => e = .returned (.int .i64 (numk (zs.getD (k % L) 0) k L n)) ∧ ∃ m, w' = w.drewN m := by
  have hmax := h.2.1
  unfold maxLen at hmax
  unfold numk
  have hL0 : ((L : Int) == 0) = false := by simp; omega
  have hL1 : (1 : Int) ≤ L := by omega
  have hm : k % L < L := Nat.mod_lt _ (by omega)
  obtain ⟨x, rfl, _, hc⟩ := h.2.2 (k % L) hm
  generalize zs.getD (k % L) 0 = z at hc ⊢
  clear h hL
  have hq := fun (d : Int) (u : World) => (rdraw_any d n (by omega) u).mono (fun e w' (h : e = .returned (.int .i64 (drw d n)) ∧ u = w') => (⟨h.1, h.2.symm⟩ : e = .returned (.int .i64 (drw d n)) ∧ w' = u))
  have hmi : (k : Int) % (L : Int) < (L : Int) := Int.emod_lt_of_pos _ (by omega)
  have hmi0 : 0 ≤ (k : Int) % (L : Int) := Int.emod_nonneg _ (by omega)
  have hd0 : 0 ≤ (k : Int) / (L : Int) := Int.ediv_nonneg (by omega) (by omega)
  have hd1 : (k : Int) / (L : Int) ≤ k := Int.ediv_le_self _ (by omega)
  have e0 : 0 ≤ (k : Int) / (L : Int) % 7 := Int.emod_nonneg _ (by omega)
  have e1 : (k : Int) / (L : Int) % 7 < 7 := Int.emod_lt_of_pos _ (by omega)
  obtain ⟨y, hy⟩ : ∃ y, drw (wrap64 (z.tdiv (1 + (k : Int) / (L : Int) % 7))) n = y := ⟨_, rfl⟩
  rw [hy]
  have HY := Lib.hid hy
  clear hy
  go_enter Tryz.func18, Tryz.ntmps18
  go_wp2_with fail
  go_quiet ((go_at_call 34; exact Calls.quiet_of_same (hq _ _)))
  rw [HY.out]
  go_wp2
  go_ret
  exact ⟨rfl, _, rfl⟩
/-- The number of a lone one. -/
def numl (z n : Int) : Int := numk z 0 1 n
theorem numl_in (z n : Int) (hn : 1 ≤ n) : 0 ≤ numl z n ∧ numl z n < n := drw_in _ n hn
theorem keepnum_lone {w : World} {a : Option Addr} {z : Int} (h : InInts w a 1 [z]) (c : Nat) (n : Int) (hn : 1 ≤ n) (hn' : n ≤ 1000000) :
    Calls Tryz.prog 18 #[.slice a 1 c, .int .i64 0, .int .i64 n] w fun e w' => e = .returned (.int .i64 (numl z n)) ∧ ∃ m, w' = w.drewN m := keepnum_told h c 0 (by omega) (by omega) n hn hn'
/-- A number that meets G, behind some draws. -/
def NumG (G : Int → Prop) (w : World) (e : Ending) (w' : World) : Prop := ∃ y : Nat, (y : Int) < 1000 ∧ G y ∧ e = .returned (.int .i64 y) ∧ ∃ m, w' = w.drewN m
/-- What Deque gives. -/
def DequeDG (G : Int → Prop) (n : Nat) (t sz : Nat) (w : World) (e : Ending) (w' : World) : Prop :=
  ∃ (g : Nat) (X l : List Int), e = .returned (.slice (some ⟨g, 0, none⟩) (n + 3 : Nat) (n + 3 : Nat)) ∧ Row w' g (n + 3) (n + 3) X ∧ (∀ x, x ∈ X → 0 ≤ x) ∧ w.heap.size ≤ g ∧ Below w.heap.size w w' ∧
    l.length = sz ∧ (∀ x, x ∈ l → G x) ∧ (t + sz < 18446744073709551616 → DqX X n t l ∧ X.getD 1 0 = ((t + sz : Nat) : Int))
/-- What its loop keeps. -/
def DeqLG (G : Int → Prop) (w : World) (n t sz g : Nat) (i : Value) (wr : World) : Prop :=
  ∃ (j : Nat) (X l : List Int), i = .int .i64 j ∧ j ≤ sz ∧ Row wr g (n + 3) (n + 3) X ∧ (∀ x, x ∈ X → 0 ≤ x) ∧ Below w.heap.size w wr ∧ l.length = j ∧ (∀ x, x ∈ l → G x) ∧ (t + sz < 18446744073709551616 → DqX X n t l ∧ X.getD 1 0 = ((t + sz : Nat) : Int))

theorem deqG_start (G : Int → Prop) (w : World) {n t sz : Nat} (hn : 1 ≤ n ∧ n ≤ 100) {U : Int} (h0 : 0 ≤ U) (hU : t + sz < 18446744073709551616 → U = ((t + sz : Nat) : Int)) :
    DeqLG G w n t sz w.heap.size (.int .i64 0) (((w.alloc (.cells (madeCells #[.int .u64 0] (n + 3)) 40)).setCell ⟨w.heap.size, 0, none⟩ (.int .u64 t)).setCell ⟨w.heap.size, 1, none⟩ (.int .u64 U)) := by
  have hr := ((made_row w (n + 3) (by omega)).put (i := 0) (t : Int)).put (i := 1) U
  have hb := ((below_one w (.cells (madeCells #[.int .u64 0] (n + 3)) 40)).setCell (p := ⟨w.heap.size, 0, none⟩) (Nat.le_refl _) (.int .u64 t)).setCell (p := ⟨w.heap.size, 1, none⟩) (Nat.le_refl _) (.int .u64 U)
  refine ⟨0, _, [], rfl, by omega, hr, set_nn (set_nn (by intro x hx; rw [List.eq_of_mem_replicate hx]; exact Int.le_refl 0) 0 (by omega)) 1 h0, hb, rfl, by simp, fun hlt => ⟨⟨?_, fun i hi => by simp at hi⟩, ?_⟩⟩
  · simp [List.replicate_succ]
  · rw [← hU hlt]
    simp [List.replicate_succ]
theorem deqG_next {G : Int → Prop} {w wr w3 : World} {n t sz g j r : Nat} {X l : List Int} {V : Int} {y : Nat} (hn : 1 ≤ n ∧ n ≤ 100) (hs : sz ≤ n) (ht : t < 18446744073709551616) (hj : j < sz) (hr : Row wr g (n + 3) (n + 3) X) (hX : ∀ x, x ∈ X → 0 ≤ x) (hb : Below w.heap.size w wr) (hl : l.length = j) (hll : ∀ x, x ∈ l → G x) (hd : t + sz < 18446744073709551616 → DqX X n t l ∧ X.getD 1 0 = ((t + sz : Nat) : Int))
    (hV : IntKind.u64.wrap ((t : Int) + (j : Int)) = V) (_ : r < n) (hr2 : (r : Int) = V % n) (h3 : Below wr.heap.size wr w3) (hy : G (y : Int)) (hy0 : (y : Int) < 1000) (hg : w.heap.size ≤ g) :
    DeqLG G w n t sz g (.int .i64 ((j + 1 : Nat) : Int)) (w3.setCell ⟨g, 2 + r, none⟩ (.int .u64 (y : Int))) := by
  have hr3 := (hr.of_same (w' := w3) (h3.block g hr.lt)).put (i := 2 + r) (y : Int)
  have hb3 := (hb.trans (h3.mono hb.size)).setCell (p := ⟨g, 2 + r, none⟩) hg (.int .u64 (y : Int))
  refine ⟨j + 1, _, l ++ [(y : Int)], rfl, by omega, hr3, set_nn hX _ (by omega), hb3, by simp [hl], fun x hx => ?_, fun hlt => ?_⟩
  · rcases List.mem_append.1 hx with h | h
    · exact hll x h
    · simp at h
      rw [h]
      exact hy
  · obtain ⟨h1, h2⟩ := hd hlt
    have hVV : V = ((t + j : Nat) : Int) := by
      rw [← hV, IntWalk.u64_in _ (by omega)]
      omega
    have er : r = (t + l.length) % n := by
      rw [hVV] at hr2
      rw [hl]
      omega
    refine ⟨?_, ?_⟩
    · rw [er]
      exact h1.put hr.len hn.1 (by omega) _
    · rw [List.getD_eq_getElem?_getD, List.getElem?_set_ne (by omega), ← List.getD_eq_getElem?_getD]
      exact h2

set_option maxRecDepth 100000 in
set_option maxHeartbeats 8000000 in
theorem dequeG_any {G : Int → Prop} {w : World} {a : Option Addr} {L : Nat} {zs : List Int} (h : InInts w a L zs) (c n t sz : Nat)
    (hnum : ∀ (W : World), InInts W a L zs → ∀ j : Nat, j < sz → Calls Tryz.prog 18 #[.slice a L c, .int .i64 j, .int .i64 1000] W (NumG G W)) (hn : 1 ≤ n ∧ n ≤ 100) (ht : t < 18446744073709551616) (hs : sz ≤ n) :
    Calls Tryz.prog 17 #[.int .i64 n, .int .u64 t, .int .i64 sz, .slice a L c] w (DequeDG G n t sz w) := by
  have hmk := fun (W : World) => run_make_row' (P := Tryz.prog) 22 40 (.int .u64 0) 8 Tryz.underlying22 info_u64 rfl .i64 .i64 (n + 3) (by omega) (by omega) W
  rw [show ((n + 3 : Nat) : Int) = (n : Int) + 3 by omega] at hmk
  have hrow := made_row w (n + 3) (by omega)
  have hb0 := below_one w (.cells (madeCells #[.int .u64 0] (n + 3)) 40)
  have HI2 := Lib.hid h
  have HNUM := Lib.hid hnum
  clear hnum
  obtain ⟨U, hU⟩ : ∃ U, IntKind.u64.wrap ((t : Int) + (sz : Int)) = U := ⟨_, rfl⟩
  have hUn : 0 ≤ U ∧ (t + sz < 18446744073709551616 → U = ((t + sz : Nat) : Int)) := by
    subst hU
    refine ⟨u64_nn _, fun h => ?_⟩
    rw [IntWalk.u64_in _ (by omega)]
    omega
  have HU := Lib.hid hUn
  have hc0 := hrow.cell (i := 0) (by omega)
  have hc1 := hrow.cell (i := 1) (by omega)
  have hf0 := hrow.free 0
  have hf1 := hrow.free 1
  have hX0 : ∀ i : Nat, (List.replicate (n + 3) (0 : Int)).getD i 0 = 0 := by
    intro i
    rw [List.getD_eq_getElem?_getD, List.getElem?_replicate]
    split <;> rfl
  rw [hX0] at hc0 hc1
  have i0 : (0 : Int) < ((n + 3 : Nat) : Int) := by omega
  have i1 : (1 : Int) < ((n + 3 : Nat) : Int) := by omega
  have HN := Lib.hid (And.intro hn (And.intro ht hs))
  have HST := Lib.hid (deqG_start G w hn hUn.1 hUn.2)
  clear h hrow hb0 hUn hX0
  generalize hN3 : n + 3 = N3 at *
  have HN3 := Lib.hid hN3
  go_enter Tryz.func17, Tryz.ntmps17
  go_upto_region 2 with fail
  generalize w.alloc (.cells (madeCells #[.int .u64 0] N3) 40) = W1 at *
  clear hmk
  go_wp2_with fail
  clear hc0 hc1 hf0 hf1
  generalize hg : w.heap.size = g at *
  have HG := Lib.hid (show w.heap.size ≤ g from Nat.le_of_eq hg)
  clear hg
  go_loopw [10] (fun i wr => DeqLG G w n t sz g i wr) (fun i _ => sz - (intOf i).toNat)
  case atStart => exact HST.out
  case round =>
    clear HST
    obtain ⟨j, X, l, rfl, hj, hr, hX, hb, hl, hll, hd⟩ := hrel
    by_cases hlt : j < sz
    · obtain ⟨V, hV⟩ : ∃ V, IntKind.u64.wrap ((t : Int) + (j : Int)) = V := ⟨_, rfl⟩
      obtain ⟨r, hr1, hr2, hr3⟩ := ring2 n HN.out.1 V
      have HV := Lib.hid (And.intro hV (And.intro hr1 hr2))
      have HH := Lib.hid (And.intro hr (And.intro hX (And.intro hb (And.intro hl (And.intro hll hd)))))
      have hV0 : 0 ≤ V := by rw [← hV]; exact u64_nn _
      have HQ := Lib.hid (fun W : World => queue_any (n : Int) W)
      have HRG := Lib.hid (fun W : World => ring_any 0 1 2 n V hV0 (by have := HN.out.1; omega) W)
      rw [hr3] at HRG
      clear hr hX hb hl hll hd hr1 hr2 hr3
      go_wp2_with fail
      (with_reducible refine (HQ.out _).mono ?_)
      rintro e w1 ⟨rfl, hb1⟩
      have B1 := Lib.hid hb1
      clear hb1
      go_wp2_with fail
      (with_reducible refine (HRG.out _).mono ?_)
      rintro e w2 ⟨rfl, hb2⟩
      have B2 := Lib.hid (B1.out.trans (hb2.mono B1.out.size))
      clear hb2 B1
      go_wp2_with fail
      (with_reducible refine (HNUM.out _ ((HI2.out.below HH.out.2.2.1).below B2.out) j hlt).mono ?_)
      rintro e w3 ⟨yv, hy0, hy1, rfl, nd, rfl⟩
      have B3 := Lib.hid (B2.out.trans ((below_drewN w2 nd).mono B2.out.size))
      generalize w2.drewN nd = W3 at *
      have hrow3 := HH.out.1.of_same (w' := W3) (B3.out.block g HH.out.1.lt)
      have hcx := hrow3.cell (i := 2 + r) (by have := HV.out.2.1; omega)
      have hfx := hrow3.free (2 + r)
      have hNX := Lib.hid (show ((2 + r : Nat) : Int) < (N3 : Int) from by have := HV.out.2.1; have := HN3.out; omega)
      have hix := hNX.out
      have hyw : IntKind.u64.wrap (yv : Int) = (yv : Int) := IntWalk.u64_in _ (by omega)
      have HR := Lib.hid (deqG_next HN.out.1 HN.out.2.2 HN.out.2.1 hlt HH.out.1 HH.out.2.1 HH.out.2.2.1 HH.out.2.2.2.1 HH.out.2.2.2.2.1 HH.out.2.2.2.2.2 HV.out.1 HV.out.2.1 HV.out.2.2 B3.out hy1 hy0 HG.out)
      clear hrow3 hNX
      go_wp2_with fail
      go_roundw
      case rel =>
        have := HR.out
        rw [show ((j + 1 : Nat) : Int) = (j : Int) + 1 by omega] at this
        exact this
      case measure => simp [intOf]; omega
    · obtain rfl : j = sz := by omega
      have HH := Lib.hid (And.intro hr (And.intro hX (And.intro hb (And.intro hl (And.intro hll hd)))))
      clear hr hX hb hl hll hd
      go_wp2
      go_ret
      obtain ⟨hr, hX, hb, hl, hll, hd⟩ := HH.out
      exact ⟨g, X, l, by rw [← HN3.out]; rfl, hr, hX, HG.out, hb, hl, hll, hd⟩
end Go.Proofs.YtplifdmfoeejaaaGreat
