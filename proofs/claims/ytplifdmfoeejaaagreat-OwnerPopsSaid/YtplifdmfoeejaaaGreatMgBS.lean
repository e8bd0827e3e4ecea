/-
  Stage 9: awake. (Written by wip/gen_oaw.py.)
  The walk of the statement OwnerDeques: it returns true. (Written by wip/gen_l9z.py.)
-/
import Derived.Test.YtplifdmfoeejaaaGreatMgBH
import Derived.Test.YtplifdmfoeejaaaGreatMgBQ
import Derived.Test.YtplifdmfoeejaaaGreatMatpopper
import Derived.Test.YtplifdmfoeejaaaGreatMgBE
import Derived.Test.YtplifdmfoeejaaaGreatMgBL
namespace Go.Proofs.YtplifdmfoeejaaaGreat
open Go Go.RowKit Go.Shelf
set_option linter.unusedSimpArgs false
set_option linter.unusedVariables false

set_option maxRecDepth 100000 in
set_option maxHeartbeats 16000000 in
theorem awake9_any (w : World) :
    Calls Tryz.prog 11 #[] w fun e w' => e = .returned (.bool true) ∧ Below w.heap.size w w' := by
  obtain ⟨s1, r1, d1⟩ := dq_new.push (by simp) (by simp) 5
  obtain ⟨s2, r2, d2⟩ := d1.push (by simp) (by simp) 6
  obtain ⟨s3, r3, d3⟩ := d2.full (by simp) 7
  have e5 : IntKind.u64.wrap 5 = 5 := by decide
  have e6 : IntKind.u64.wrap 6 = 6 := by decide
  rw [e5, e6] at d3
  obtain ⟨s4, r4, d4⟩ := DQ.pop (l := [5]) (v := 6) d3 (by simp) (by simp)
  obtain ⟨s5, r5, d5⟩ := d4.last (by simp)
  obtain ⟨s6, r6, d6⟩ := d5.none
  have i5 : IntKind.i64.wrap 5 = 5 := by decide
  have i6 : IntKind.i64.wrap 6 = 6 := by decide
  rw [i6] at r4
  rw [i5] at r5
  have n1 := runS_N push_keeps 20 (new_N 4) (pushOk1 2 (by omega) 5) r1
  have n2 := runS_N push_keeps 20 n1 (pushOk1 2 (by omega) 6) r2
  have n3 := runS_N push_keeps 20 n2 (pushOk1 2 (by omega) 7) r3
  have n4 := runS_N pop_keeps 20 n3 (popOk1 2 (by omega)) r4
  have n5 := runS_N pop_keeps 20 n4 (popOk1 2 (by omega)) r5
  have n6 := runS_N pop_keeps 20 n5 (popOk1 2 (by omega)) r6
  have HR := Lib.hid (And.intro r1 (And.intro r2 (And.intro r3 (And.intro r4 (And.intro r5 r6)))))
  have HN := Lib.hid (And.intro n1 (And.intro n2 (And.intro n3 (And.intro n4 (And.intro n5 n6)))))
  clear r1 r2 r3 r4 r5 r6 n1 n2 n3 n4 n5 n6 d1 d2 d3 d4 d5 d6 e5 e6 i5 i6
  go_enter Tryz.func11, Tryz.ntmps11
  go_wp2_with fail
  (with_reducible refine (pbare_any 4 w).mono ?_)
  rintro e w1 ⟨p, m, k, g, rfl, hp, hb, l1, l2, l3, l4⟩
  have e1 : sizeS 4 = 4 := rfl
  rw [e1] at hp
  have h20 := hp.at20
  have HP := Lib.hid hp
  have HB := Lib.hid hb
  have HL := Lib.hid (And.intro l1 (And.intro l2 (And.intro l3 l4)))
  clear hb e1 hp l1 l2 l3 l4
  go_wp2_with fail
  (with_reducible refine (queue_any 2 _).mono ?_)
  rintro e w2 ⟨rfl, hb2⟩
  have HB2 := Lib.hid (HB.out.trans (hb2.mono HB.out.size))
  have HP2 := Lib.hid (HP.out.below hb2)
  clear hb2 h20 HP HB
  go_upto_region 5 with fail
  have A0 := Lib.hid (show AW w p m k g 4 hd0 (.slice none 0 0) (.slice none 0 0) 0 0 w2.heap.size 2 (St.new 4) (w2.alloc (.cells (qcells 0 1 2 2) 27)) from ⟨HP2.out.alloc _, Blk.made w2 _ _, new_N 4, HB2.out.alloc HB2.out.size _, HL.out.1, HL.out.2.1, HL.out.2.2.1, HL.out.2.2.2, HB2.out.size⟩)
  generalize w2.alloc (.cells (qcells 0 1 2 2) 27) = V0 at *
  generalize w2.heap.size = qb at *
  clear HP2 HB2 HL
  have q0 : V0.cell? ⟨qb, 0, none⟩ = some (.int .i64 0) := A0.out.q.at_ 0
  have q1 : V0.cell? ⟨qb, 1, none⟩ = some (.int .i64 1) := A0.out.q.at_ 1
  have q2 : V0.cell? ⟨qb, 2, none⟩ = some (.int .i64 2) := A0.out.q.at_ 2
  have q3 : V0.cell? ⟨qb, 3, none⟩ = some (.int .i64 2) := A0.out.q.at_ 3
  go_wp2_with fail
  (with_reducible refine (oPush_any 0 1 2 2 5 _).mono ?_)
  rintro e u0 ⟨x, rfl, ho, hx, hb⟩
  have C0 := Lib.hid (A0.out.below hb)
  have O0 := Lib.hid (And.intro ho (show w.heap.size ≤ x by have := A0.out.b.size; omega))
  clear ho hx hb q0 q1 q2 q3 A0
  go_wp2_with fail
  (with_reducible refine (alone_pusher C0.out.e O0.out.1 C0.out.n (pushOk1 2 (by omega) 5) HR.out.1).mono ?_)
  rintro e V1 ⟨rfl, hp, hf⟩
  have A1 := Lib.hid (C0.out.done O0.out.1 (by decide) O0.out.2 hp hf HN.out.1)
  clear hp hf C0 O0
  have q0 : V1.cell? ⟨qb, 0, none⟩ = some (.int .i64 0) := A1.out.q.at_ 0
  have q1 : V1.cell? ⟨qb, 1, none⟩ = some (.int .i64 1) := A1.out.q.at_ 1
  have q2 : V1.cell? ⟨qb, 2, none⟩ = some (.int .i64 2) := A1.out.q.at_ 2
  have q3 : V1.cell? ⟨qb, 3, none⟩ = some (.int .i64 2) := A1.out.q.at_ 3
  go_wp2_with fail
  (with_reducible refine (oPush_any 0 1 2 2 6 _).mono ?_)
  rintro e u1 ⟨x, rfl, ho, hx, hb⟩
  have C1 := Lib.hid (A1.out.below hb)
  have O1 := Lib.hid (And.intro ho (show w.heap.size ≤ x by have := A1.out.b.size; omega))
  clear ho hx hb q0 q1 q2 q3 A1
  go_wp2_with fail
  (with_reducible refine (alone_pusher C1.out.e O1.out.1 C1.out.n (pushOk1 2 (by omega) 6) HR.out.2.1).mono ?_)
  rintro e V2 ⟨rfl, hp, hf⟩
  have A2 := Lib.hid (C1.out.done O1.out.1 (by decide) O1.out.2 hp hf HN.out.2.1)
  clear hp hf C1 O1
  have q0 : V2.cell? ⟨qb, 0, none⟩ = some (.int .i64 0) := A2.out.q.at_ 0
  have q1 : V2.cell? ⟨qb, 1, none⟩ = some (.int .i64 1) := A2.out.q.at_ 1
  have q2 : V2.cell? ⟨qb, 2, none⟩ = some (.int .i64 2) := A2.out.q.at_ 2
  have q3 : V2.cell? ⟨qb, 3, none⟩ = some (.int .i64 2) := A2.out.q.at_ 3
  go_wp2_with fail
  (with_reducible refine (oPush_any 0 1 2 2 7 _).mono ?_)
  rintro e u2 ⟨x, rfl, ho, hx, hb⟩
  have C2 := Lib.hid (A2.out.below hb)
  have O2 := Lib.hid (And.intro ho (show w.heap.size ≤ x by have := A2.out.b.size; omega))
  clear ho hx hb q0 q1 q2 q3 A2
  go_wp2_with fail
  (with_reducible refine (alone_pusher C2.out.e O2.out.1 C2.out.n (pushOk1 2 (by omega) 7) HR.out.2.2.1).mono ?_)
  rintro e V3 ⟨rfl, hp, hf⟩
  have A3 := Lib.hid (C2.out.done O2.out.1 (by decide) O2.out.2 hp hf HN.out.2.2.1)
  clear hp hf C2 O2
  have q0 : V3.cell? ⟨qb, 0, none⟩ = some (.int .i64 0) := A3.out.q.at_ 0
  have q1 : V3.cell? ⟨qb, 1, none⟩ = some (.int .i64 1) := A3.out.q.at_ 1
  have q2 : V3.cell? ⟨qb, 2, none⟩ = some (.int .i64 2) := A3.out.q.at_ 2
  have q3 : V3.cell? ⟨qb, 3, none⟩ = some (.int .i64 2) := A3.out.q.at_ 3
  go_wp2_with fail
  (with_reducible refine (oPop_any 0 1 2 2 _).mono ?_)
  rintro e u3 ⟨x, rfl, ho, hx, hb⟩
  have C3 := Lib.hid (A3.out.below hb)
  have O3 := Lib.hid (And.intro ho (show w.heap.size ≤ x by have := A3.out.b.size; omega))
  clear ho hx hb q0 q1 q2 q3 A3
  go_wp2_with fail
  (with_reducible refine (alone_popper C3.out.e O3.out.1 C3.out.n (popOk1 2 (by omega)) HR.out.2.2.2.1).mono ?_)
  rintro e V4 ⟨rfl, hp, hf⟩
  have A4 := Lib.hid (C3.out.done O3.out.1 (by decide) O3.out.2 hp hf HN.out.2.2.2.1)
  clear hp hf C3 O3
  have q0 : V4.cell? ⟨qb, 0, none⟩ = some (.int .i64 0) := A4.out.q.at_ 0
  have q1 : V4.cell? ⟨qb, 1, none⟩ = some (.int .i64 1) := A4.out.q.at_ 1
  have q2 : V4.cell? ⟨qb, 2, none⟩ = some (.int .i64 2) := A4.out.q.at_ 2
  have q3 : V4.cell? ⟨qb, 3, none⟩ = some (.int .i64 2) := A4.out.q.at_ 3
  go_wp2_with fail
  (with_reducible refine (oPop_any 0 1 2 2 _).mono ?_)
  rintro e u4 ⟨x, rfl, ho, hx, hb⟩
  have C4 := Lib.hid (A4.out.below hb)
  have O4 := Lib.hid (And.intro ho (show w.heap.size ≤ x by have := A4.out.b.size; omega))
  clear ho hx hb q0 q1 q2 q3 A4
  go_wp2_with fail
  (with_reducible refine (alone_popper C4.out.e O4.out.1 C4.out.n (popOk1 2 (by omega)) HR.out.2.2.2.2.1).mono ?_)
  rintro e V5 ⟨rfl, hp, hf⟩
  have A5 := Lib.hid (C4.out.done O4.out.1 (by decide) O4.out.2 hp hf HN.out.2.2.2.2.1)
  clear hp hf C4 O4
  have q0 : V5.cell? ⟨qb, 0, none⟩ = some (.int .i64 0) := A5.out.q.at_ 0
  have q1 : V5.cell? ⟨qb, 1, none⟩ = some (.int .i64 1) := A5.out.q.at_ 1
  have q2 : V5.cell? ⟨qb, 2, none⟩ = some (.int .i64 2) := A5.out.q.at_ 2
  have q3 : V5.cell? ⟨qb, 3, none⟩ = some (.int .i64 2) := A5.out.q.at_ 3
  go_wp2_with fail
  (with_reducible refine (oPop_any 0 1 2 2 _).mono ?_)
  rintro e u5 ⟨x, rfl, ho, hx, hb⟩
  have C5 := Lib.hid (A5.out.below hb)
  have O5 := Lib.hid (And.intro ho (show w.heap.size ≤ x by have := A5.out.b.size; omega))
  clear ho hx hb q0 q1 q2 q3 A5
  go_wp2_with fail
  (with_reducible refine (alone_popper C5.out.e O5.out.1 C5.out.n (popOk1 2 (by omega)) HR.out.2.2.2.2.2).mono ?_)
  rintro e V6 ⟨rfl, hp, hf⟩
  have A6 := Lib.hid (C5.out.done O5.out.1 (by decide) O5.out.2 hp hf HN.out.2.2.2.2.2)
  clear hp hf C5 O5
  go_wp2
  go_ret
  exact ⟨rfl, A6.out.b⟩
end Go.Proofs.YtplifdmfoeejaaaGreat

namespace Go.Proofs.YtplifdmfoeejaaaGreat
open Go Go.RowKit Go.Shelf
set_option linter.unusedSimpArgs false
set_option linter.unusedVariables false


/-- The comparison begins. -/
theorem ms_start_pusher {W0 w w1 w2 : World} {p m k g n : Nat} {q ag acap : Nat} {s : St} {t b r c v : Int} {x y gy cy : Nat} (hd : Duo w W0.heap.size p m k g n hd0 nilV nilV q (bareA ag acap) s s 0 0 [] [] [] []) (hn : s.N) (hc : 0 ≤ s.c ∧ s.c ≤ 1000) (hb : Below W0.heap.size W0 w)
    (h1 : Below w.heap.size w w1) (ho : OB w1 x 96 [.int .i64 v] (fra1 0 t b r c v) 0 0) (hx : w.heap.size ≤ x) (h2 : Below w1.heap.size w1 w2) (hm : Mach1 w1.heap.size w2 y gy cy [] (fra1 0 t b r c v)) (hk : c ≤ 100) :
    MS W0 PushOk 0 96 W0.heap.size p m k g n hd0 nilV nilV q y gy cy [] 0 [] [] s (fra1 0 t b r c v) (bareA ag acap) 1000 0 x (ocells (fra1 0 t b r c v) 0 0 ++ ([.int .i64 v] : List Value)).toArray w2 := by
  have s1 := hb.size
  have s2 := h1.size
  have hbm := hm.bm
  have hbg := hm.bg
  refine ⟨(hd.below h1).below h2, (ho.below h2).blk, ⟨hm.blk, hm.fr, by omega, by omega, hm.hc⟩, hn, ⟨.inl rfl, Int.le_refl _, Int.le_refl _, ?_⟩, rfl, hc, ⟨Int.le_refl _, Int.le_refl _⟩, hb.trans ((h1.trans (h2.mono s2)).mono s1), by omega, rfl⟩
  show c ≤ _
  omega

/-- The comparison begins. -/
theorem ms_start_popper {W0 w w1 w2 : World} {p m k g n : Nat} {q ag acap : Nat} {s : St} {t b r c : Int} {x y gy cy : Nat} (hd : Duo w W0.heap.size p m k g n hd0 nilV nilV q (bareA ag acap) s s 0 0 [] [] [] []) (hn : s.N) (hc : 0 ≤ s.c ∧ s.c ≤ 1000) (hb : Below W0.heap.size W0 w)
    (h1 : Below w.heap.size w w1) (ho : OB w1 x 99 [] (fra1 1 t b r c 0) 0 0) (hx : w.heap.size ≤ x) (h2 : Below w1.heap.size w1 w2) (hm : Mach1 w1.heap.size w2 y gy cy [] (fra1 1 t b r c 0)) (hk : c ≤ 100) :
    MS W0 PopOk 1 99 W0.heap.size p m k g n hd0 nilV nilV q y gy cy [] 0 [] [] s (fra1 1 t b r c 0) (bareA ag acap) 1000 0 x (ocells (fra1 1 t b r c 0) 0 0 ++ ([] : List Value)).toArray w2 := by
  have s1 := hb.size
  have s2 := h1.size
  have hbm := hm.bm
  have hbg := hm.bg
  refine ⟨(hd.below h1).below h2, (ho.below h2).blk, ⟨hm.blk, hm.fr, by omega, by omega, hm.hc⟩, hn, ⟨.inl rfl, Int.le_refl _, Int.le_refl _, ?_⟩, rfl, hc, ⟨Int.le_refl _, Int.le_refl _⟩, hb.trans ((h1.trans (h2.mono s2)).mono s1), by omega, rfl⟩
  show c ≤ _
  omega


set_option maxRecDepth 100000 in
set_option maxHeartbeats 16000000 in
theorem deques_law {w : World} {va na : Option Addr} {vn nn : Nat} {vz nz : List Int} (n sz : Int) (t : Nat) (vc nc : Nat) (pop : Bool) (v : Int) (hn : 0 ≤ n ∧ n ≤ 255) (hsz : 0 ≤ sz ∧ sz ≤ 255) (ht : t < 18446744073709551616) (hv : InInts w va vn vz) (hz : InInts w na nn nz) :
    Calls Tryz.prog 5 #[.int .u8 n, .int .u8 sz, .int .u64 t, .slice va vn vc, .bool pop, .int .i64 v, .slice na nn nc] w fun e w' => e = .returned (.bool true) ∧ Below w.heap.size w w' := by
  have hb0 := below_one w (.cells #[.slice va vn vc, .slice na nn nc] 24)
  have hX := Blk.made w 24 #[.slice va vn vc, .slice na nn nc]
  have hmv := hv.2.1
  have hmz := hz.2.1
  unfold maxLen at hmv hmz
  have HS := Lib.hid (short2_any hX (by omega) (by omega))
  have B0 := Lib.hid hb0
  have HV := Lib.hid hv
  have HZ := Lib.hid hz
  obtain ⟨sb, hsb⟩ : ∃ sb, (decide ((vn : Int) ≤ 400) && decide ((nn : Int) ≤ 400)) = sb := ⟨_, rfl⟩
  rw [hsb] at HS
  clear hX hb0 hv hz hsb
  obtain ⟨C, hC, hC2⟩ : ∃ C : Nat, 1 + n % 6 = (C : Int) ∧ (1 ≤ C ∧ C ≤ 6) := ⟨(1 + n % 6).toNat, by omega, by omega⟩
  obtain ⟨K, hK, hK2⟩ : ∃ K : Nat, sz % ((C : Int) + 1) = (K : Int) ∧ K ≤ C := by
    have h1 := Int.emod_nonneg sz (show ((C : Int) + 1) ≠ 0 by omega)
    have h2 := Int.emod_lt_of_pos sz (show (0 : Int) < (C : Int) + 1 by omega)
    exact ⟨(sz % ((C : Int) + 1)).toNat, by omega, by omega⟩
  have HC := Lib.hid (And.intro hC2 hK2)
  go_enter Tryz.func5, Tryz.ntmps5
  go_wp2_with fail
  (with_reducible refine HS.out.mono ?_)
  rintro e w1 ⟨rfl, rfl⟩
  cases sb with
  | false =>
    go_wp2
    go_ret
    exact ⟨rfl, B0.out⟩
  | true =>
  go_wp2_with fail
  (with_reducible refine (queue_any C _).mono ?_)
  rintro e w2 ⟨rfl, hb2⟩
  have B2 := Lib.hid (B0.out.trans (hb2.mono B0.out.size))
  clear hb2 B0 HS
  go_upto_region 5 with fail
  have Q3 := Lib.hid (Blk.made w2 27 (qcells 0 1 2 C))
  have B3 := Lib.hid (B2.out.alloc B2.out.size (.cells (qcells 0 1 2 C) 27))
  generalize w2.alloc (.cells (qcells 0 1 2 C) 27) = W3 at *
  generalize w2.heap.size = qb at *
  clear B2
  go_wp2_with fail
  (with_reducible refine (deque_any (HV.out.below B3.out) vc C t K (by omega) ht hK2).mono ?_)
  rintro e w4 ⟨gd, X, l, rfl, hr4, hX, hg4, hb4, _, _, _⟩
  have Q4 := Lib.hid (Q3.out.below hb4)
  have B4 := Lib.hid (B3.out.trans (hb4.mono B3.out.size))
  have R4 := Lib.hid hr4
  have HXX := Lib.hid hX
  clear hr4 hX hg4 hb4 Q3 B3
  go_wp2_with fail
  (with_reducible refine (mbare_any R4.out.inW (C + 3) (by omega)).mono ?_)
  rintro e w5 ⟨p, m, k, g, q, ag, acap, s, rfl, hd, hsX, hsc, hb5⟩
  have D5 := Lib.hid hd
  have S5 := Lib.hid (And.intro (Row.inNN HXX.out hsX) (show 0 ≤ s.c ∧ s.c ≤ 1000 by omega))
  have Q5 := Lib.hid (Q4.out.below hb5)
  have Q4x := Q4
  have B5 := Lib.hid hb5
  clear hd hsX hsc hb5 Q4 HXX R4
  go_wp2_with fail
  (with_reducible refine (awake9_any _).mono ?_)
  rintro e w6 ⟨rfl, hb6⟩
  have D6 := Lib.hid (D5.out.below hb6)
  have Q6 := Lib.hid (Q5.out.below hb6)
  have B6 := Lib.hid (B5.out.trans (hb6.mono B5.out.size))
  clear hb6 D5 Q5 B5
  have y0 : w6.drew.cell? ⟨qb, 0, none⟩ = some (.int .i64 0) := Q6.out.at_ 0
  have y1 : w6.drew.cell? ⟨qb, 1, none⟩ = some (.int .i64 1) := Q6.out.at_ 1
  have y2 : w6.drew.cell? ⟨qb, 2, none⟩ = some (.int .i64 2) := Q6.out.at_ 2
  have y3 : w6.drew.cell? ⟨qb, 3, none⟩ = some (.int .i64 C) := Q6.out.at_ 3
  have hd6 : Below w6.heap.size w6 w6.drew := below_drew (Below.refl _ _)
  have Z4 := Lib.hid (HZ.out.below B4.out)
  have hCk : (C : Int) ≤ 100 := by omega
  cases pop with
  | false =>
    go_wp2_with fail
    go_region_held3 (fun w' => w'.cell? ⟨qb, 0, none⟩ = some (.int .i64 0) ∧ w'.cell? ⟨qb, 1, none⟩ = some (.int .i64 1) ∧ w'.cell? ⟨qb, 2, none⟩ = some (.int .i64 2) ∧ w'.cell? ⟨qb, 3, none⟩ = some (.int .i64 C)) ((first | exact ⟨x0, x1, x2, x3⟩ | exact ⟨z0, z1, z2, z3⟩ | exact ⟨v0, v1, v2, v3⟩ | exact ⟨y0, y1, y2, y3⟩ | go_keep))
      (first
       | (go_at_call 13
          refine (oPush_any 0 1 2 C v _).mono ?_
          rintro e w7 ⟨x, rfl, ho, hx, hb7⟩
          have Q7 := Lib.hid ((Q6.out.below hd6).below hb7)
          have v0 : w7.cell? ⟨qb, 0, none⟩ = some (.int .i64 0) := Q7.out.at_ 0
          have v1 : w7.cell? ⟨qb, 1, none⟩ = some (.int .i64 1) := Q7.out.at_ 1
          have v2 : w7.cell? ⟨qb, 2, none⟩ = some (.int .i64 2) := Q7.out.at_ 2
          have v3 : w7.cell? ⟨qb, 3, none⟩ = some (.int .i64 C) := Q7.out.at_ 3)
       | (go_at_call 14
          refine (make_any { fra1 0 0 1 2 C v with ln := 0 } _ (by rfl)).mono ?_
          rintro e w8 ⟨y, gy, cy, rfl, hm, hb8⟩
          have Q8 := Lib.hid (Q7.out.below hb8)
          have M8 := Lib.hid (ms_start_pusher D6.out S5.out.1 S5.out.2 B6.out (hd6.trans hb7) ho hx hb8 hm hCk)
          have z0 : w8.cell? ⟨qb, 0, none⟩ = some (.int .i64 0) := Q8.out.at_ 0
          have z1 : w8.cell? ⟨qb, 1, none⟩ = some (.int .i64 1) := Q8.out.at_ 1
          have z2 : w8.cell? ⟨qb, 2, none⟩ = some (.int .i64 2) := Q8.out.at_ 2
          have z3 : w8.cell? ⟨qb, 3, none⟩ = some (.int .i64 C) := Q8.out.at_ 3)
       | (go_at_call 12
          refine (match_pusher M8.out (by omega) (by omega) (by simp) Z4.out).mono ?_
          rintro e w9 ⟨rfl, hb9⟩
          have Q9 := Lib.hid (Q4x.out.below hb9)
          have x0 : w9.cell? ⟨qb, 0, none⟩ = some (.int .i64 0) := Q9.out.at_ 0
          have x1 : w9.cell? ⟨qb, 1, none⟩ = some (.int .i64 1) := Q9.out.at_ 1
          have x2 : w9.cell? ⟨qb, 2, none⟩ = some (.int .i64 2) := Q9.out.at_ 2
          have x3 : w9.cell? ⟨qb, 3, none⟩ = some (.int .i64 C) := Q9.out.at_ 3))
    go_wp2
    go_ret
    exact ⟨rfl, B4.out.trans (hb9.mono B4.out.size)⟩
  | true =>
    go_wp2_with fail
    go_region_held3 (fun w' => w'.cell? ⟨qb, 0, none⟩ = some (.int .i64 0) ∧ w'.cell? ⟨qb, 1, none⟩ = some (.int .i64 1) ∧ w'.cell? ⟨qb, 2, none⟩ = some (.int .i64 2) ∧ w'.cell? ⟨qb, 3, none⟩ = some (.int .i64 C)) ((first | exact ⟨x0, x1, x2, x3⟩ | exact ⟨z0, z1, z2, z3⟩ | exact ⟨v0, v1, v2, v3⟩ | exact ⟨y0, y1, y2, y3⟩ | go_keep))
      (first
       | (go_at_call 15
          refine (oPop_any 0 1 2 C _).mono ?_
          rintro e w7 ⟨x, rfl, ho, hx, hb7⟩
          have Q7 := Lib.hid ((Q6.out.below hd6).below hb7)
          have v0 : w7.cell? ⟨qb, 0, none⟩ = some (.int .i64 0) := Q7.out.at_ 0
          have v1 : w7.cell? ⟨qb, 1, none⟩ = some (.int .i64 1) := Q7.out.at_ 1
          have v2 : w7.cell? ⟨qb, 2, none⟩ = some (.int .i64 2) := Q7.out.at_ 2
          have v3 : w7.cell? ⟨qb, 3, none⟩ = some (.int .i64 C) := Q7.out.at_ 3)
       | (go_at_call 14
          refine (make_any { fra1 1 0 1 2 C 0 with ln := 0 } _ (by rfl)).mono ?_
          rintro e w8 ⟨y, gy, cy, rfl, hm, hb8⟩
          have Q8 := Lib.hid (Q7.out.below hb8)
          have M8 := Lib.hid (ms_start_popper D6.out S5.out.1 S5.out.2 B6.out (hd6.trans hb7) ho hx hb8 hm hCk)
          have z0 : w8.cell? ⟨qb, 0, none⟩ = some (.int .i64 0) := Q8.out.at_ 0
          have z1 : w8.cell? ⟨qb, 1, none⟩ = some (.int .i64 1) := Q8.out.at_ 1
          have z2 : w8.cell? ⟨qb, 2, none⟩ = some (.int .i64 2) := Q8.out.at_ 2
          have z3 : w8.cell? ⟨qb, 3, none⟩ = some (.int .i64 C) := Q8.out.at_ 3)
       | (go_at_call 12
          refine (match_popper M8.out (by omega) (by omega) (by simp) Z4.out).mono ?_
          rintro e w9 ⟨rfl, hb9⟩
          have Q9 := Lib.hid (Q4x.out.below hb9)
          have x0 : w9.cell? ⟨qb, 0, none⟩ = some (.int .i64 0) := Q9.out.at_ 0
          have x1 : w9.cell? ⟨qb, 1, none⟩ = some (.int .i64 1) := Q9.out.at_ 1
          have x2 : w9.cell? ⟨qb, 2, none⟩ = some (.int .i64 2) := Q9.out.at_ 2
          have x3 : w9.cell? ⟨qb, 3, none⟩ = some (.int .i64 C) := Q9.out.at_ 3))
    go_wp2
    go_ret
    exact ⟨rfl, B4.out.trans (hb9.mono B4.out.size)⟩
end Go.Proofs.YtplifdmfoeejaaaGreat
