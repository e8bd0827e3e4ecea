/-
  The walk of the statement OwnerDeques: it returns true. (Written by wip/gen_l9z.py.)
  The keep's Number of one number.
  Stage 9: queue.
-/
import Derived.Test.YthiiidkkdlmneaaGreatMatpusher
import Derived.Test.YthiiidkkdlmneaaGreatMatpopper
import Derived.Test.YthiiidkkdlmneaaGreatMgBH
import Derived.Test.YthiiidkkdlmneaaGreatMgBL
import Derived.Test.YthiiidkkdlmneaaGreatMgBI
import Derived.Test.YthiiidkkdlmneaaGreatMgAA
import Derived.Test.YthiiidkkdlmneaaGreatMgAO
import Derived.Deep.Cut
namespace Go.Proofs.YthiiidkkdlmneaaGreat
open Go Go.RowKit Go.Shelf
set_option linter.unusedSimpArgs false
set_option linter.unusedVariables false

theorem Row.inNN {X : List Int} (h : ∀ x, x ∈ X → 0 ≤ x) {s : St} (e : s.X = X) : s.N := N_of (fun j hj => by
  rw [e] at hj ⊢
  rw [List.getD_eq_getElem?_getD, List.getElem?_eq_getElem hj]
  exact h _ (List.getElem_mem hj))

/-- The comparison begins. -/
theorem ms_start_pusher {W0 w w1 w2 : World} {p m k g n : Nat} {q ag acap : Nat} {s : St} {t b r c v : Int} {x y gy cy : Nat} (hd : Duo w W0.heap.size p m k g n hd0 nilV nilV q (bareA ag acap) s s 0 0 [] [] [] []) (hn : s.N) (hc : 0 ≤ s.c ∧ s.c ≤ 1000) (hb : Below W0.heap.size W0 w)
    (h1 : Below w.heap.size w w1) (ho : OB w1 x 93 [.int .i64 v] (fra1 0 t b r c v) 0 0) (hx : w.heap.size ≤ x) (h2 : Below w1.heap.size w1 w2) (hm : Mach1 w1.heap.size w2 y gy cy [] (fra1 0 t b r c v)) (hk : c ≤ 100) :
    MS W0 PushOk 0 93 W0.heap.size p m k g n hd0 nilV nilV q y gy cy [] 0 [] [] s (fra1 0 t b r c v) (bareA ag acap) 1000 0 x (ocells (fra1 0 t b r c v) 0 0 ++ ([.int .i64 v] : List Value)).toArray w2 := by
  have s1 := hb.size
  have s2 := h1.size
  have hbm := hm.bm
  have hbg := hm.bg
  refine ⟨(hd.below h1).below h2, (ho.below h2).blk, ⟨hm.blk, hm.fr, by omega, by omega, hm.hc⟩, hn, ⟨.inl rfl, Int.le_refl _, Int.le_refl _, ?_⟩, rfl, hc, ⟨Int.le_refl _, Int.le_refl _⟩, hb.trans ((h1.trans (h2.mono s2)).mono s1), by omega, rfl⟩
  show c ≤ _
  omega

/-- The comparison begins. -/
theorem ms_start_popper {W0 w w1 w2 : World} {p m k g n : Nat} {q ag acap : Nat} {s : St} {t b r c : Int} {x y gy cy : Nat} (hd : Duo w W0.heap.size p m k g n hd0 nilV nilV q (bareA ag acap) s s 0 0 [] [] [] []) (hn : s.N) (hc : 0 ≤ s.c ∧ s.c ≤ 1000) (hb : Below W0.heap.size W0 w)
    (h1 : Below w.heap.size w w1) (ho : OB w1 x 96 [] (fra1 1 t b r c 0) 0 0) (hx : w.heap.size ≤ x) (h2 : Below w1.heap.size w1 w2) (hm : Mach1 w1.heap.size w2 y gy cy [] (fra1 1 t b r c 0)) (hk : c ≤ 100) :
    MS W0 PopOk 1 96 W0.heap.size p m k g n hd0 nilV nilV q y gy cy [] 0 [] [] s (fra1 1 t b r c 0) (bareA ag acap) 1000 0 x (ocells (fra1 1 t b r c 0) 0 0 ++ ([] : List Value)).toArray w2 := by
  have s1 := hb.size
  have s2 := h1.size
  have hbm := hm.bm
  have hbg := hm.bg
  refine ⟨(hd.below h1).below h2, (ho.below h2).blk, ⟨hm.blk, hm.fr, by omega, by omega, hm.hc⟩, hn, ⟨.inl rfl, Int.le_refl _, Int.le_refl _, ?_⟩, rfl, hc, ⟨Int.le_refl _, Int.le_refl _⟩, hb.trans ((h1.trans (h2.mono s2)).mono s1), by omega, rfl⟩
  show c ≤ _
  omega


set_option maxRecDepth 100000 in
set_option maxHeartbeats 16000000 in
theorem deques_law {w : World} {va na : Option Addr} {vn nn : Nat} {vz nz : List Int} (n sz : Int) (t : Nat) (vc nc : Nat) (pop : Bool) (v : Int) (hn : 0 ≤ n ∧ n ≤ 255) (hsz : 0 ≤ sz ∧ sz ≤ 255) (ht : t < 18446744073709551616) (hv : InInts w va vn vz) (hz : InInts w na nn nz) :
    Calls Tryz.prog 5 #[.int .u8 n, .int .u8 sz, .int .u64 t, .slice va vn vc, .bool pop, .int .i64 v, .slice na nn nc] w fun e w' => e = .returned (.bool true) ∧ Below w.heap.size w w' := by
  have hb0 := below_one w (.cells #[.slice va vn vc, .slice na nn nc] 24)
  have hX := Blk.made w 24 #[.slice va vn vc, .slice na nn nc]
  have hmv := hv.2.1
  have hmz := hz.2.1
  unfold maxLen at hmv hmz
  have HS := Lib.hid (short2_any hX (by omega) (by omega))
  have B0 := Lib.hid hb0
  have HV := Lib.hid hv
  have HZ := Lib.hid hz
  obtain ⟨sb, hsb⟩ : ∃ sb, (decide ((vn : Int) ≤ 400) && decide ((nn : Int) ≤ 400)) = sb := ⟨_, rfl⟩
  rw [hsb] at HS
  clear hX hb0 hv hz hsb
  obtain ⟨C, hC, hC2⟩ : ∃ C : Nat, 1 + n % 6 = (C : Int) ∧ (1 ≤ C ∧ C ≤ 6) := ⟨(1 + n % 6).toNat, by omega, by omega⟩
  obtain ⟨K, hK, hK2⟩ : ∃ K : Nat, sz % ((C : Int) + 1) = (K : Int) ∧ K ≤ C := by
    have h1 := Int.emod_nonneg sz (show ((C : Int) + 1) ≠ 0 by omega)
    have h2 := Int.emod_lt_of_pos sz (show (0 : Int) < (C : Int) + 1 by omega)
    exact ⟨(sz % ((C : Int) + 1)).toNat, by omega, by omega⟩
  have HC := Lib.hid (And.intro hC2 hK2)
  go_enter Tryz.func5, Tryz.ntmps5
  go_wp2_with fail
  (with_reducible refine HS.out.mono ?_)
  rintro e w1 ⟨rfl, rfl⟩
  cases sb with
  | false =>
    go_wp2
    go_ret
    exact ⟨rfl, B0.out⟩
  | true =>
  go_wp2_with fail
  (with_reducible refine (queue_any C _).mono ?_)
  rintro e w2 ⟨rfl, hb2⟩
  have B2 := Lib.hid (B0.out.trans (hb2.mono B0.out.size))
  clear hb2 B0 HS
  go_upto_region 5 with fail
  have Q3 := Lib.hid (Blk.made w2 27 (qcells 0 1 2 C))
  have B3 := Lib.hid (B2.out.alloc B2.out.size (.cells (qcells 0 1 2 C) 27))
  generalize w2.alloc (.cells (qcells 0 1 2 C) 27) = W3 at *
  generalize w2.heap.size = qb at *
  clear B2
  go_wp2_with fail
  (with_reducible refine (deque_any (HV.out.below B3.out) vc C t K (by omega) ht hK2).mono ?_)
  rintro e w4 ⟨gd, X, l, rfl, hr4, hX, hg4, hb4, _, _, _⟩
  have Q4 := Lib.hid (Q3.out.below hb4)
  have B4 := Lib.hid (B3.out.trans (hb4.mono B3.out.size))
  have R4 := Lib.hid hr4
  have HXX := Lib.hid hX
  clear hr4 hX hg4 hb4 Q3 B3
  go_wp2_with fail
  (with_reducible refine (mbare_any R4.out.inW (C + 3) (by omega)).mono ?_)
  rintro e w5 ⟨p, m, k, g, q, ag, acap, s, rfl, hd, hsX, hsc, hb5⟩
  have D5 := Lib.hid hd
  have S5 := Lib.hid (And.intro (Row.inNN HXX.out hsX) (show 0 ≤ s.c ∧ s.c ≤ 1000 by omega))
  have Q5 := Lib.hid (Q4.out.below hb5)
  have Q4x := Q4
  have B5 := Lib.hid hb5
  clear hd hsX hsc hb5 Q4 HXX R4
  go_wp2_with fail
  (with_reducible refine (awake9_any _).mono ?_)
  rintro e w6 ⟨rfl, hb6⟩
  have D6 := Lib.hid (D5.out.below hb6)
  have Q6 := Lib.hid (Q5.out.below hb6)
  have B6 := Lib.hid (B5.out.trans (hb6.mono B5.out.size))
  clear hb6 D5 Q5 B5
  have y0 : w6.drew.cell? ⟨qb, 0, none⟩ = some (.int .i64 0) := Q6.out.at_ 0
  have y1 : w6.drew.cell? ⟨qb, 1, none⟩ = some (.int .i64 1) := Q6.out.at_ 1
  have y2 : w6.drew.cell? ⟨qb, 2, none⟩ = some (.int .i64 2) := Q6.out.at_ 2
  have y3 : w6.drew.cell? ⟨qb, 3, none⟩ = some (.int .i64 C) := Q6.out.at_ 3
  have hd6 : Below w6.heap.size w6 w6.drew := below_drew (Below.refl _ _)
  have Z4 := Lib.hid (HZ.out.below B4.out)
  have hCk : (C : Int) ≤ 100 := by omega
  cases pop with
  | false =>
    go_wp2_with fail
    go_region_held3 (fun w' => w'.cell? ⟨qb, 0, none⟩ = some (.int .i64 0) ∧ w'.cell? ⟨qb, 1, none⟩ = some (.int .i64 1) ∧ w'.cell? ⟨qb, 2, none⟩ = some (.int .i64 2) ∧ w'.cell? ⟨qb, 3, none⟩ = some (.int .i64 C)) ((first | exact ⟨x0, x1, x2, x3⟩ | exact ⟨z0, z1, z2, z3⟩ | exact ⟨v0, v1, v2, v3⟩ | exact ⟨y0, y1, y2, y3⟩ | go_keep))
      (first
       | (go_at_call 11
          refine (oPush_any 0 1 2 C v _).mono ?_
          rintro e w7 ⟨x, rfl, ho, hx, hb7⟩
          have Q7 := Lib.hid ((Q6.out.below hd6).below hb7)
          have v0 : w7.cell? ⟨qb, 0, none⟩ = some (.int .i64 0) := Q7.out.at_ 0
          have v1 : w7.cell? ⟨qb, 1, none⟩ = some (.int .i64 1) := Q7.out.at_ 1
          have v2 : w7.cell? ⟨qb, 2, none⟩ = some (.int .i64 2) := Q7.out.at_ 2
          have v3 : w7.cell? ⟨qb, 3, none⟩ = some (.int .i64 C) := Q7.out.at_ 3)
       | (go_at_call 12
          refine (make_any { fra1 0 0 1 2 C v with ln := 0 } _ (by rfl)).mono ?_
          rintro e w8 ⟨y, gy, cy, rfl, hm, hb8⟩
          have Q8 := Lib.hid (Q7.out.below hb8)
          have M8 := Lib.hid (ms_start_pusher D6.out S5.out.1 S5.out.2 B6.out (hd6.trans hb7) ho hx hb8 hm hCk)
          have z0 : w8.cell? ⟨qb, 0, none⟩ = some (.int .i64 0) := Q8.out.at_ 0
          have z1 : w8.cell? ⟨qb, 1, none⟩ = some (.int .i64 1) := Q8.out.at_ 1
          have z2 : w8.cell? ⟨qb, 2, none⟩ = some (.int .i64 2) := Q8.out.at_ 2
          have z3 : w8.cell? ⟨qb, 3, none⟩ = some (.int .i64 C) := Q8.out.at_ 3)
       | (go_at_call 10
          refine (match_pusher M8.out (by omega) (by omega) (by simp) Z4.out).mono ?_
          rintro e w9 ⟨rfl, hb9⟩
          have Q9 := Lib.hid (Q4x.out.below hb9)
          have x0 : w9.cell? ⟨qb, 0, none⟩ = some (.int .i64 0) := Q9.out.at_ 0
          have x1 : w9.cell? ⟨qb, 1, none⟩ = some (.int .i64 1) := Q9.out.at_ 1
          have x2 : w9.cell? ⟨qb, 2, none⟩ = some (.int .i64 2) := Q9.out.at_ 2
          have x3 : w9.cell? ⟨qb, 3, none⟩ = some (.int .i64 C) := Q9.out.at_ 3))
    go_wp2
    go_ret
    exact ⟨rfl, B4.out.trans (hb9.mono B4.out.size)⟩
  | true =>
    go_wp2_with fail
    go_region_held3 (fun w' => w'.cell? ⟨qb, 0, none⟩ = some (.int .i64 0) ∧ w'.cell? ⟨qb, 1, none⟩ = some (.int .i64 1) ∧ w'.cell? ⟨qb, 2, none⟩ = some (.int .i64 2) ∧ w'.cell? ⟨qb, 3, none⟩ = some (.int .i64 C)) ((first | exact ⟨x0, x1, x2, x3⟩ | exact ⟨z0, z1, z2, z3⟩ | exact ⟨v0, v1, v2, v3⟩ | exact ⟨y0, y1, y2, y3⟩ | go_keep))
      (first
       | (go_at_call 13
          refine (oPop_any 0 1 2 C _).mono ?_
          rintro e w7 ⟨x, rfl, ho, hx, hb7⟩
          have Q7 := Lib.hid ((Q6.out.below hd6).below hb7)
          have v0 : w7.cell? ⟨qb, 0, none⟩ = some (.int .i64 0) := Q7.out.at_ 0
          have v1 : w7.cell? ⟨qb, 1, none⟩ = some (.int .i64 1) := Q7.out.at_ 1
          have v2 : w7.cell? ⟨qb, 2, none⟩ = some (.int .i64 2) := Q7.out.at_ 2
          have v3 : w7.cell? ⟨qb, 3, none⟩ = some (.int .i64 C) := Q7.out.at_ 3)
       | (go_at_call 12
          refine (make_any { fra1 1 0 1 2 C 0 with ln := 0 } _ (by rfl)).mono ?_
          rintro e w8 ⟨y, gy, cy, rfl, hm, hb8⟩
          have Q8 := Lib.hid (Q7.out.below hb8)
          have M8 := Lib.hid (ms_start_popper D6.out S5.out.1 S5.out.2 B6.out (hd6.trans hb7) ho hx hb8 hm hCk)
          have z0 : w8.cell? ⟨qb, 0, none⟩ = some (.int .i64 0) := Q8.out.at_ 0
          have z1 : w8.cell? ⟨qb, 1, none⟩ = some (.int .i64 1) := Q8.out.at_ 1
          have z2 : w8.cell? ⟨qb, 2, none⟩ = some (.int .i64 2) := Q8.out.at_ 2
          have z3 : w8.cell? ⟨qb, 3, none⟩ = some (.int .i64 C) := Q8.out.at_ 3)
       | (go_at_call 10
          refine (match_popper M8.out (by omega) (by omega) (by simp) Z4.out).mono ?_
          rintro e w9 ⟨rfl, hb9⟩
          have Q9 := Lib.hid (Q4x.out.below hb9)
          have x0 : w9.cell? ⟨qb, 0, none⟩ = some (.int .i64 0) := Q9.out.at_ 0
          have x1 : w9.cell? ⟨qb, 1, none⟩ = some (.int .i64 1) := Q9.out.at_ 1
          have x2 : w9.cell? ⟨qb, 2, none⟩ = some (.int .i64 2) := Q9.out.at_ 2
          have x3 : w9.cell? ⟨qb, 3, none⟩ = some (.int .i64 C) := Q9.out.at_ 3))
    go_wp2
    go_ret
    exact ⟨rfl, B4.out.trans (hb9.mono B4.out.size)⟩
end Go.Proofs.YthiiidkkdlmneaaGreat

namespace Go.Proofs.YthiiidkkdlmneaaGreat
open Go Go.RowKit

theorem ints_lone (w : World) (z : Int) : InInts (w.alloc (.cells #[.int .i64 z] 3)) (some ⟨w.heap.size, 0, none⟩) 1 [z] := by
  have hB := Blk.made w 3 #[.int .i64 z]
  refine ⟨rfl, by unfold maxLen; omega, fun i hi => ⟨_, rfl, hB.lt, ?_⟩⟩
  obtain rfl : i = 0 := by omega
  have e : (⟨w.heap.size, 0, none⟩ : Addr).add 0 = ⟨w.heap.size, 0, none⟩ := by unfold Addr.add; rfl
  rw [e, hB.at_]
  rfl
theorem keepnum0 {w : World} {a : Option Addr} {L : Nat} {zs : List Int} (h : InInts w a L zs) (c : Nat) (n : Int) (hn : 1 ≤ n) (hn' : n ≤ 1000000) :
    Calls Tryz.prog 16 #[.slice a L c, .int .i64 0, .int .i64 n] w (NumR n w) := keepnum_any h c 0 (by omega) n hn hn'
end Go.Proofs.YthiiidkkdlmneaaGreat

namespace Go.Proofs.YthiiidkkdlmneaaGreat
open Go Go.RowKit
set_option linter.unusedSimpArgs false

/-- What queue gives: some small numbers. -/
def QueD (w : World) (e : Ending) (w' : World) : Prop := ∃ t b r k : Int, e = .returned (qv t b r k) ∧ k ≤ 100 ∧ Below w.heap.size w w'
set_option maxRecDepth 100000 in
set_option maxHeartbeats 8000000 in
theorem lawqueue_any (a : Option Addr) (n c : Nat) (hn : n ≤ 40) (x0 x1 x2 x3 : Int) (w : World) :
    Calls Tryz.prog 7 #[.slice a n c, .int .i64 x0, .int .i64 x1, .int .i64 x2, .int .i64 x3] w (QueD w) := by
  have Z := Lib.hid (Blk.made w 27 #[.int .i64 0, .int .i64 0, .int .i64 0, .int .i64 0])
  have B := Lib.hid (below_one w (.cells #[.int .i64 0, .int .i64 0, .int .i64 0, .int .i64 0] 27))
  go_enter Tryz.func7, Tryz.ntmps7
  go_upto_region 1 with fail
  generalize w.alloc (.cells #[.int .i64 0, .int .i64 0, .int .i64 0, .int .i64 0] 27) = W0 at *
  go_wp2_with fail
  have I0 := Lib.hid (ints_lone W0 x0)
  have hb0 := below_one W0 (.cells #[.int .i64 x0] 3)
  (with_reducible refine (keepnum0 I0.out 1 ((n : Int) + 3) (by omega) (by omega)).mono ?_)
  rintro e u0 ⟨y0, hy0, rfl, nd0, rfl⟩
  have Z1 := Lib.hid ((Z.out.below hb0).below (below_drewN _ nd0))
  have B1 := Lib.hid (B.out.trans ((hb0.trans ((below_drewN (W0.alloc (.cells #[.int .i64 x0] 3)) nd0).mono hb0.size)).mono B.out.size))
  clear I0 hb0 Z B
  generalize (W0.alloc (.cells #[.int .i64 x0] 3)).drewN nd0 = W1 at *
  go_wp2_with fail
  have I1 := Lib.hid (ints_lone W1 x1)
  have hb1 := below_one W1 (.cells #[.int .i64 x1] 3)
  (with_reducible refine (keepnum0 I1.out 1 ((n : Int) + 3) (by omega) (by omega)).mono ?_)
  rintro e u1 ⟨y1, hy1, rfl, nd1, rfl⟩
  have Z2 := Lib.hid ((Z1.out.below hb1).below (below_drewN _ nd1))
  have B2 := Lib.hid (B1.out.trans ((hb1.trans ((below_drewN (W1.alloc (.cells #[.int .i64 x1] 3)) nd1).mono hb1.size)).mono B1.out.size))
  clear I1 hb1 Z1 B1
  generalize (W1.alloc (.cells #[.int .i64 x1] 3)).drewN nd1 = W2 at *
  go_wp2_with fail
  have I2 := Lib.hid (ints_lone W2 x2)
  have hb2 := below_one W2 (.cells #[.int .i64 x2] 3)
  (with_reducible refine (keepnum0 I2.out 1 ((n : Int) + 3) (by omega) (by omega)).mono ?_)
  rintro e u2 ⟨y2, hy2, rfl, nd2, rfl⟩
  have Z3 := Lib.hid ((Z2.out.below hb2).below (below_drewN _ nd2))
  have B3 := Lib.hid (B2.out.trans ((hb2.trans ((below_drewN (W2.alloc (.cells #[.int .i64 x2] 3)) nd2).mono hb2.size)).mono B2.out.size))
  clear I2 hb2 Z2 B2
  generalize (W2.alloc (.cells #[.int .i64 x2] 3)).drewN nd2 = W3 at *
  go_wp2_with fail
  have I3 := Lib.hid (ints_lone W3 x3)
  have hb3 := below_one W3 (.cells #[.int .i64 x3] 3)
  (with_reducible refine (keepnum0 I3.out 1 (7) (by omega) (by omega)).mono ?_)
  rintro e u3 ⟨y3, hy3, rfl, nd3, rfl⟩
  have Z4 := Lib.hid ((Z3.out.below hb3).below (below_drewN _ nd3))
  have B4 := Lib.hid (B3.out.trans ((hb3.trans ((below_drewN (W3.alloc (.cells #[.int .i64 x3] 3)) nd3).mono hb3.size)).mono B3.out.size))
  clear I3 hb3 Z3 B3
  generalize (W3.alloc (.cells #[.int .i64 x3] 3)).drewN nd3 = W4 at *
  have q0 := Z4.out.at_ 0
  have q1 := Z4.out.at_ 1
  have q2 := Z4.out.at_ 2
  have q3 := Z4.out.at_ 3
  have f0 := Z4.out.free 0
  have f1 := Z4.out.free 1
  have f2 := Z4.out.free 2
  have f3 := Z4.out.free 3
  go_wp2
  have hP := (((Z4.out.put 0 (.int .i64 ((y0 : Int) - 1))).put 1 (.int .i64 ((y1 : Int) - 1))).put 2 (.int .i64 ((y2 : Int) - 1))).put 3 (.int .i64 ((y3 : Int) - 1))
  simp only [List.setIfInBounds_toArray, List.set_cons_zero, List.set_cons_succ] at hP
  have hF : Fr [w.heap.size] W4 ((((W4.setCell ⟨w.heap.size, 0, none⟩ (.int .i64 ((y0 : Int) - 1))).setCell ⟨w.heap.size, 1, none⟩ (.int .i64 ((y1 : Int) - 1))).setCell ⟨w.heap.size, 2, none⟩ (.int .i64 ((y2 : Int) - 1))).setCell ⟨w.heap.size, 3, none⟩ (.int .i64 ((y3 : Int) - 1))) :=
    ((((Fr.refl [w.heap.size] W4).setCell (.inl (by simp)) _).setCell (.inl (by simp)) _).setCell (.inl (by simp)) _).setCell (.inl (by simp)) _
  refine bodyPost_ret (results_cell_row (P := Tryz.prog) Tryz.results7 _ _ w.heap.size 27 _ (0, 0) _ rfl hP Tryz.underlying27 rfl (by kernel_rfl)) rfl ?_
  exact ⟨_, _, _, _, rfl, by omega, below_of_fr B4.out hF (by simp)⟩
end Go.Proofs.YthiiidkkdlmneaaGreat
