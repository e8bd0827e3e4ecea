/-
  The walk of the statement OwnerStack: it returns true.
-/
import Derived.Test.YtplifdmfoeejaaaMgAN
import Derived.Test.YtplifdmfoeejaaaMgAY
namespace Go.Proofs.Ytplifdmfoeejaaa
open Go Go.RowKit Go.Shelf
set_option linter.unusedSimpArgs false
set_option linter.unusedVariables false

/-- What the loop keeps. -/
def StkR (w : World) (p m k g cap qb n t0 : Nat) (L : Nat) (i v : Value) (wr : World) : Prop :=
  ∃ (j : Nat) (s : St) (t : Nat) (ws : List Int), j ≤ L ∧ i = .int .i64 j ∧ SW w p m k g cap qb n s t v ws wr ∧ t + ws.length ≤ t0 + j

set_option maxRecDepth 100000 in
set_option maxHeartbeats 16000000 in
theorem stack_law {w : World} {la : Option Addr} {L : Nat} {lz : List Int} (n : Int) (t : Nat) (lc : Nat) (hn : 0 ≤ n ∧ n ≤ 255) (ht : t < 18446744073709551616) (hl : InInts w la L lz ∧ ∀ x, x ∈ lz → -9223372036854775808 ≤ x ∧ x ≤ 9223372036854775807) :
    Calls Try.prog 3 #[.int .u8 n, .int .u64 t, .slice la L lc] w fun e w' => e = .returned (.bool true) ∧ Below w.heap.size w w' := by
  have hml := hl.1.2.1
  unfold maxLen at hml
  have HL := Lib.hid hl
  clear hl
  by_cases h100 : 100 < L
  · go_enter Try.func3, Try.ntmps3
    go_wp2
    go_ret
    exact ⟨rfl, Below.refl _ _⟩
  have h101 : decide (100 < (L : Int)) = false := decide_eq_false (by omega)
  obtain ⟨C, hC, hC2⟩ : ∃ C : Nat, 1 + n % 9 = (C : Int) ∧ (1 ≤ C ∧ C ≤ 9) := ⟨(1 + n % 9).toNat, by omega, by omega⟩
  obtain ⟨t2, ht2, ht3⟩ : ∃ t2 : Nat, (t : Int) / 2 = (t2 : Int) ∧ t2 < 9223372036854775808 := ⟨t / 2, by omega, by omega⟩
  have HC := Lib.hid (And.intro hC2 ht3)
  have HNL := Lib.hid (show InInts w none 0 [] from ⟨rfl, by simp, fun i hi => absurd hi (by omega)⟩)
  go_enter Try.func3, Try.ntmps3
  go_wp2_with fail
  (with_reducible refine (queue_any C _).mono ?_)
  rintro e w2 ⟨rfl, hb2⟩
  have B2 := Lib.hid hb2
  clear hb2
  go_upto_region 5 with fail
  have Q3 := Lib.hid (Blk.made w2 25 (qcells 0 1 2 C))
  have B3 := Lib.hid (B2.out.alloc B2.out.size (.cells (qcells 0 1 2 C) 25))
  have HQB := Lib.hid B2.out.size
  generalize w2.alloc (.cells (qcells 0 1 2 C) 25) = W3 at *
  generalize w2.heap.size = qb at *
  clear B2
  have hdq0 := deque_any (HNL.out.below B3.out) 0 C t2 0 (by omega) (by omega) (by omega)
  rw [show ((0 : Nat) : Int) = 0 from rfl] at hdq0
  have HDQ0 := Lib.hid hdq0
  clear hdq0
  go_wp2_with fail
  (with_reducible refine HDQ0.out.mono ?_)
  rintro e w4 ⟨gd, X, l, rfl, hr4, hX, hg4, hb4, hll, _, hdx⟩
  have hl0 : l = [] := List.eq_nil_of_length_eq_zero hll
  subst hl0
  obtain ⟨hd1, hd2⟩ := hdx (by omega)
  have Q4 := Lib.hid (Q3.out.below hb4)
  have B4 := Lib.hid (B3.out.trans (hb4.mono B3.out.size))
  have R4 := Lib.hid hr4
  have HXX := Lib.hid (And.intro hX (And.intro hd1 hd2))
  clear hr4 hX hg4 hb4 Q3 B3 hd1 hd2 hdx hll
  go_wp2_with fail
  (with_reducible refine (mbare_any R4.out.inW (C + 3) (by omega)).mono ?_)
  rintro e w5 ⟨p, m, k, g, q, ag, acap, s, rfl, hd, hsX, hsc, hb5⟩
  have hs4 := B4.out.size
  have hdq := DQ.ofX hsX R4.out.len HXX.out.2.1 HXX.out.2.2 (by simp) (by omega)
  have A5 := Lib.hid (show AW w p m k g (C + 3) hd0 nilV nilV 0 0 qb C s w5 from ⟨hd.e, Q4.out.below hb5, Row.inNN HXX.out.1 hsX, B4.out.trans (hb5.mono hs4), Nat.le_trans hs4 hd.bp, Nat.le_trans hs4 hd.bm, Nat.le_trans hs4 hd.bk, Nat.le_trans hs4 hd.bg, HQB.out⟩)
  have DQ5 := Lib.hid hdq
  clear hd hsX hsc hb5 Q4 HXX R4 hs4 hdq B4
  go_wp2_with fail
  (with_reducible refine (awake9_any _).mono ?_)
  rintro e w6 ⟨rfl, hb6⟩
  have S6 := Lib.hid (show SW w p m k g (C + 3) qb C s t2 nilV [] w6 from ⟨A5.out.below hb6, DQ5.out, OwnI.nil _ _, by simp⟩)
  clear hb6 A5 DQ5
  go_wp2_with fail
  go_loopw [13, 12] (fun i v wr => StkR w p m k g (C + 3) qb C t2 L i v wr) (fun i _ _ => L - (intOf i).toNat)
  case atStart => exact ⟨0, s, t2, [], by omega, rfl, S6.out, by simp⟩
  case round =>
    clear S6
    obtain ⟨j, s, t', ws, hj, rfl, hS, hsum⟩ := hrel
    have S := Lib.hid hS
    have HSUM := Lib.hid hsum
    obtain ⟨va, vc, hvf, _, _⟩ := hS.o.form
    obtain ⟨M, hM⟩ : ∃ M, ws.length = M := ⟨_, rfl⟩
    rw [hM] at hvf
    subst hvf
    have HM := Lib.hid hM
    clear hS hsum hM
    by_cases hlt : j < L
    case neg =>
      obtain rfl : j = L := by omega
      have E7 := Lib.hid (S.out.a.e.drewN 1)
      have d20 : wr.drew.cell? ⟨p, 20, none⟩ = some (.pointer (some ⟨m, 0, none⟩)) := E7.out.at20
      have hsz : sizeI (s.old 1) (s.old 0) = (M : Int) := by
        have h1 := S.out.d.bot
        have h2 := S.out.d.cap
        have h3 := S.out.d.nn
        rw [h1, S.out.d.top, size_of (by omega) (by omega), ← HM.out]
        omega
      have KZ := Lib.hid (show ∀ u : World, Calls Try.prog 15 #[.int .u64 (s.old 1), .int .u64 (s.old 0)] u (fun e w' => e = .returned (.int .i64 (M : Int)) ∧ u = w') from fun u => hsz ▸ size_any (s.old 1) (s.old 0) u)
      have B7 := Lib.hid (below_drew S.out.a.b)
      clear hsz S
      go_wp2_with fail
      go_region_held3 (fun w' => w'.cell? ⟨p, 20, none⟩ = some (.pointer (some ⟨m, 0, none⟩))) ((first | exact d20 | go_keep))
        (first
         | (go_at_call 16
            refine (peek_any E7.out.mem _).mono ?_
            rintro e u ⟨rfl, rfl⟩)
         | (go_at_call 15
            refine (KZ.out _).mono ?_
            rintro e u ⟨rfl, rfl⟩))
      go_wp2
      go_ret
      exact ⟨rfl, B7.out⟩
    obtain ⟨x0, rfl, hx0, hc0⟩ := (HL.out.1.below S.out.a.b).2.2 j hlt
    obtain ⟨z, hz⟩ : ∃ z, lz.getD j 0 = z := ⟨_, rfl⟩
    have hzr : -9223372036854775808 ≤ z ∧ z ≤ 9223372036854775807 := by
      rw [← hz, List.getD_eq_getElem?_getD, List.getElem?_eq_getElem (by rw [HL.out.1.1]; exact hlt)]
      exact HL.out.2 _ (List.getElem_mem _)
    rw [hz] at hc0
    have HZ := Lib.hid (And.intro hz hzr)
    clear hz hx0
    by_cases hpos : 0 < z
    · have Sd := Lib.hid (S.out.below (below_drew (Below.refl _ _)))
      have y0 : wr.drew.cell? ⟨qb, 0, none⟩ = some (.int .i64 0) := Sd.out.a.q.at_ 0
      have y1 : wr.drew.cell? ⟨qb, 1, none⟩ = some (.int .i64 1) := Sd.out.a.q.at_ 1
      have y2 : wr.drew.cell? ⟨qb, 2, none⟩ = some (.int .i64 2) := Sd.out.a.q.at_ 2
      have y3 : wr.drew.cell? ⟨qb, 3, none⟩ = some (.int .i64 C) := Sd.out.a.q.at_ 3
      have y4 : wr.drew.cell? (x0.add j) = some (.int .i64 z) := hc0
      have hj0 : (0 : Int) ≤ (j : Int) := by omega
      have hj1 : (j : Int) < (L : Int) := by omega
      by_cases hfull : C = M
      · subst hfull
        obtain ⟨s', hr, hd'⟩ := S.out.d.full HM.out z
        have HD' := Lib.hid hd'
        have HRR := Lib.hid hr
        have hmc : ((C : Int) == (C : Int)) = true := by simp
        clear hd' hr
        go_wp2_with fail
        clear hc0
        go_region_held3 (fun w' => w'.cell? ⟨qb, 0, none⟩ = some (.int .i64 0) ∧ w'.cell? ⟨qb, 1, none⟩ = some (.int .i64 1) ∧ w'.cell? ⟨qb, 2, none⟩ = some (.int .i64 2) ∧ w'.cell? ⟨qb, 3, none⟩ = some (.int .i64 C) ∧ w'.cell? (x0.add j) = some (.int .i64 z)) ((first | exact ⟨u0, u1, u2, u3, u4⟩ | exact ⟨v0, v1, v2, v3, v4⟩ | exact ⟨y0, y1, y2, y3, y4⟩ | go_keep))
          (first
           | (go_at_call 13
              refine (oPush_any 0 1 2 C z _).mono ?_
              rintro e w7 ⟨x, rfl, ho, hx, hb7⟩
              have S7 := Lib.hid (Sd.out.a.below hb7)
              have O7 := Lib.hid (Sd.out.o.below hb7)
              have hxw : w.heap.size ≤ x := Nat.le_trans Sd.out.a.b.size hx
              have v0 : w7.cell? ⟨qb, 0, none⟩ = some (.int .i64 0) := S7.out.q.at_ 0
              have v1 : w7.cell? ⟨qb, 1, none⟩ = some (.int .i64 1) := S7.out.q.at_ 1
              have v2 : w7.cell? ⟨qb, 2, none⟩ = some (.int .i64 2) := S7.out.q.at_ 2
              have v3 : w7.cell? ⟨qb, 3, none⟩ = some (.int .i64 C) := S7.out.q.at_ 3
              have v4 : w7.cell? (x0.add j) = some (.int .i64 z) := by rw [← HZ.out.1]; exact (HL.out.1.below S7.out.b).cell hlt)
           | (go_at_call 12
              refine (alone_pusher S7.out.e ho S7.out.n (pushOk1 C (by omega) z) HRR.out).mono ?_
              rintro e w8 ⟨rfl, hp8, hf8⟩
              have S8 := Lib.hid (S7.out.done ho (by decide) hxw hp8 hf8 (runS_N push_keeps 20 S7.out.n (pushOk1 C (by omega) z) HRR.out))
              have O8 := Lib.hid (own_alone O7.out S7.out ho (by decide) hf8)
              have u0 : w8.cell? ⟨qb, 0, none⟩ = some (.int .i64 0) := S8.out.q.at_ 0
              have u1 : w8.cell? ⟨qb, 1, none⟩ = some (.int .i64 1) := S8.out.q.at_ 1
              have u2 : w8.cell? ⟨qb, 2, none⟩ = some (.int .i64 2) := S8.out.q.at_ 2
              have u3 : w8.cell? ⟨qb, 3, none⟩ = some (.int .i64 C) := S8.out.q.at_ 3
              have u4 : w8.cell? (x0.add j) = some (.int .i64 z) := by rw [← HZ.out.1]; exact (HL.out.1.below S8.out.b).cell hlt))
        have SS := Lib.hid (show SW w p m k g (C + 3) qb C s' t' (.slice va C vc) ws w8 from ⟨S8.out, HD'.out, O8.out, S.out.r⟩)
        clear S7 O7 S8 O8 Sd S
        go_wp2_with fail
        go_roundw
        case rel => exact ⟨j + 1, s', t', ws, by omega, by go_num, SS.out, by have := HSUM.out; omega⟩
        case measure => simp [intOf]; omega
      · obtain ⟨s', hr, hd'⟩ := S.out.d.push (by rw [HM.out]; have := S.out.d.cap; rw [HM.out] at this; omega) (by rw [HM.out]; have := HSUM.out; rw [HM.out] at this; have := HC.out; omega) z
        rw [(wrap_in ⟨hpos, HZ.out.2.2⟩).1] at hd'
        have HD' := Lib.hid hd'
        have HRR := Lib.hid hr
        have hmc : ((M : Int) == (C : Int)) = false := by simp; omega
        clear hd' hr
        go_wp2_with fail
        clear hc0
        go_region_held3 (fun w' => w'.cell? ⟨qb, 0, none⟩ = some (.int .i64 0) ∧ w'.cell? ⟨qb, 1, none⟩ = some (.int .i64 1) ∧ w'.cell? ⟨qb, 2, none⟩ = some (.int .i64 2) ∧ w'.cell? ⟨qb, 3, none⟩ = some (.int .i64 C) ∧ w'.cell? (x0.add j) = some (.int .i64 z)) ((first | exact ⟨u0, u1, u2, u3, u4⟩ | exact ⟨v0, v1, v2, v3, v4⟩ | exact ⟨y0, y1, y2, y3, y4⟩ | go_keep))
          (first
           | (go_at_call 13
              refine (oPush_any 0 1 2 C z _).mono ?_
              rintro e w7 ⟨x, rfl, ho, hx, hb7⟩
              have S7 := Lib.hid (Sd.out.a.below hb7)
              have O7 := Lib.hid (Sd.out.o.below hb7)
              have hxw : w.heap.size ≤ x := Nat.le_trans Sd.out.a.b.size hx
              have v0 : w7.cell? ⟨qb, 0, none⟩ = some (.int .i64 0) := S7.out.q.at_ 0
              have v1 : w7.cell? ⟨qb, 1, none⟩ = some (.int .i64 1) := S7.out.q.at_ 1
              have v2 : w7.cell? ⟨qb, 2, none⟩ = some (.int .i64 2) := S7.out.q.at_ 2
              have v3 : w7.cell? ⟨qb, 3, none⟩ = some (.int .i64 C) := S7.out.q.at_ 3
              have v4 : w7.cell? (x0.add j) = some (.int .i64 z) := by rw [← HZ.out.1]; exact (HL.out.1.below S7.out.b).cell hlt)
           | (go_at_call 12
              refine (alone_pusher S7.out.e ho S7.out.n (pushOk1 C (by omega) z) HRR.out).mono ?_
              rintro e w8 ⟨rfl, hp8, hf8⟩
              have S8 := Lib.hid (S7.out.done ho (by decide) hxw hp8 hf8 (runS_N push_keeps 20 S7.out.n (pushOk1 C (by omega) z) HRR.out))
              have O8 := Lib.hid (own_alone O7.out S7.out ho (by decide) hf8)
              have u0 : w8.cell? ⟨qb, 0, none⟩ = some (.int .i64 0) := S8.out.q.at_ 0
              have u1 : w8.cell? ⟨qb, 1, none⟩ = some (.int .i64 1) := S8.out.q.at_ 1
              have u2 : w8.cell? ⟨qb, 2, none⟩ = some (.int .i64 2) := S8.out.q.at_ 2
              have u3 : w8.cell? ⟨qb, 3, none⟩ = some (.int .i64 C) := S8.out.q.at_ 3
              have u4 : w8.cell? (x0.add j) = some (.int .i64 z) := by rw [← HZ.out.1]; exact (HL.out.1.below S8.out.b).cell hlt))
        have hn9 : ws.length + 1 ≤ 1000000 := by have := S.out.d.cap; omega
        have AO := Lib.hid (O8.out.alloc (.cells #[.int .i64 z] 3))
        have AA := Lib.hid (S8.out.below (below_one w8 (.cells #[.int .i64 z] 3)))
        have hbw : w.heap.size ≤ (w8.alloc (.cells #[.int .i64 z] 3)).heap.size := AA.out.b.size
        have hwr := S.out.r
        have HWR := Lib.hid hwr
        clear S7 O7 O8 Sd S hwr
        go_wp2_with
          (at_builtin
           refine wpList_appI rfl _ _ rfl rfl AO.out (ns := [z]) rfl rfl (ints_new w8 [z]) hn9 hbw ?_
           intro v9 w9 hown9 hg9
           have A9 := Lib.hid (AA.out.app AO.out hg9)
           have O9 := Lib.hid hown9
           clear hown9 hg9)
        go_roundw
        case rel =>
          refine ⟨j + 1, s', t', ws ++ [z], by omega, by go_num, ⟨A9.out, HD'.out, O9.out, fun y hy => ?_⟩, by have := HSUM.out; simp; omega⟩
          rcases List.mem_append.1 hy with h | h
          · exact HWR.out y h
          · simp at h
            rw [h]
            exact ⟨hpos, HZ.out.2.2⟩
        case measure => simp [intOf]; omega
    · have q0 : wr.cell? ⟨qb, 0, none⟩ = some (.int .i64 0) := S.out.a.q.at_ 0
      have q1 : wr.cell? ⟨qb, 1, none⟩ = some (.int .i64 1) := S.out.a.q.at_ 1
      have q2 : wr.cell? ⟨qb, 2, none⟩ = some (.int .i64 2) := S.out.a.q.at_ 2
      have q3 : wr.cell? ⟨qb, 3, none⟩ = some (.int .i64 C) := S.out.a.q.at_ 3
      have hj0 : (0 : Int) ≤ (j : Int) := by omega
      have hj1 : (j : Int) < (L : Int) := by omega
      have hz0 : decide (0 < z) = false := decide_eq_false hpos
      rcases Nat.eq_zero_or_pos M with hM0 | hMp
      · subst hM0
        obtain rfl : ws = [] := List.eq_nil_of_length_eq_zero HM.out
        obtain ⟨s', hr, hd'⟩ := S.out.d.none
        have HD' := Lib.hid hd'
        have HRR := Lib.hid hr
        clear hd' hr
        go_wp2_with fail
        (with_reducible refine (oPop_any 0 1 2 C _).mono ?_)
        rintro e w7 ⟨x, rfl, ho, hx, hb7⟩
        have S7 := Lib.hid (S.out.a.below hb7)
        have O7 := Lib.hid (S.out.o.below hb7)
        have HO7 := Lib.hid (And.intro ho (show w.heap.size ≤ x from Nat.le_trans S.out.a.b.size hx))
        clear ho hx hb7
        go_wp2_with fail
        (with_reducible refine (alone_popper S7.out.e HO7.out.1 S7.out.n (popOk1 C (by omega)) HRR.out).mono ?_)
        rintro e w8 ⟨rfl, hp8, hf8⟩
        have S8 := Lib.hid (S7.out.done HO7.out.1 (by decide) HO7.out.2 hp8 hf8 (runS_N pop_keeps 20 S7.out.n (popOk1 C (by omega)) HRR.out))
        have O8 := Lib.hid (own_alone O7.out S7.out HO7.out.1 (by decide) hf8)
        clear hp8 hf8 S7 O7 HO7
        have SS := Lib.hid (show SW w p m k g (C + 3) qb C s' t' (.slice va 0 vc) [] w8 from ⟨S8.out, HD'.out, O8.out, S.out.r⟩)
        clear S8 O8 S hc0 q0 q1 q2 q3
        go_wp2_with fail
        go_roundw
        case rel => exact ⟨j + 1, s', t', [], by omega, by go_num, SS.out, by have := HSUM.out; simp at this ⊢; omega⟩
        case measure => simp [intOf]; omega
      · obtain ⟨l0, x9, rfl⟩ := list_last (l := ws) (by rw [HM.out]; exact hMp)
        obtain ⟨M1, hM1⟩ : ∃ M1, M = M1 + 1 := ⟨M - 1, by omega⟩
        have hl1 : l0.length = M1 := by have := HM.out; simp at this; omega
        have hx9 := S.out.r x9 (by simp)
        obtain ⟨g9, c9, hv9⟩ := S.out.o.at0 (by rw [HM.out]; omega)
        rw [HM.out] at hv9
        obtain ⟨rfl, rfl⟩ : va = some ⟨g9, 0, none⟩ ∧ vc = c9 := by simpa using hv9
        have hrun : ∃ s' t'' N, runS popS 20 s (fra1 1 0 1 2 C 0) = some (s', ⟨true, 1, x9⟩, N) ∧ DQ s' C t'' l0 ∧ t'' + l0.length ≤ t2 + (j + 1) ∧ N ≤ 7 := by
          have hsum := HSUM.out
          have hlt2 := HC.out.2
          simp only [List.length_append, List.length_cons, List.length_nil, Nat.zero_add] at hsum
          rcases Nat.eq_zero_or_pos l0.length with h0 | h0
          · obtain rfl : l0 = [] := List.eq_nil_of_length_eq_zero h0
            obtain ⟨s', hr, hd'⟩ := DQ.last (v := x9) S.out.d (by simp at hsum; omega)
            rw [(wrap_in hx9).2] at hr
            exact ⟨s', t' + 1, 7, hr, hd', by simp at hsum ⊢; omega, by omega⟩
          · obtain ⟨s', hr, hd'⟩ := DQ.pop (v := x9) S.out.d h0 (by omega)
            rw [(wrap_in hx9).2] at hr
            exact ⟨s', t', 5, hr, hd', by omega, by omega⟩
        obtain ⟨s', t'', N, hr, hd', hs', hN⟩ := hrun
        have HD' := Lib.hid (And.intro hd' hs')
        have HRR := Lib.hid hr
        have hN7 : decide (7 < (N : Int)) = false := decide_eq_false (by omega)
        have hlen0 : ((M : Int) == 0) = false := by simp; omega
        have HM1 := Lib.hid hM1
        have HL1 := Lib.hid hl1
        clear hM1 hl1
        clear hd' hr hs' hv9
        go_wp2_with fail
        (with_reducible refine (oPop_any 0 1 2 C _).mono ?_)
        rintro e w7 ⟨x, rfl, ho, hx, hb7⟩
        have S7 := Lib.hid (S.out.a.below hb7)
        have O7 := Lib.hid (S.out.o.below hb7)
        have HO7 := Lib.hid (And.intro ho (show w.heap.size ≤ x from Nat.le_trans S.out.a.b.size hx))
        clear ho hx hb7
        go_wp2_with fail
        (with_reducible refine (alone_popper S7.out.e HO7.out.1 S7.out.n (popOk1 C (by omega)) HRR.out).mono ?_)
        rintro e w8 ⟨rfl, hp8, hf8⟩
        have S8 := Lib.hid (S7.out.done HO7.out.1 (by decide) HO7.out.2 hp8 hf8 (runS_N pop_keeps 20 S7.out.n (popOk1 C (by omega)) HRR.out))
        have O8 := Lib.hid (own_alone O7.out S7.out HO7.out.1 (by decide) hf8)
        clear hp8 hf8 S7 O7 HO7
        have hcell : w8.cell? ⟨g9, M1, none⟩ = some (.int .i64 x9) := by
          have h := O8.out
          rw [← HM.out] at h
          rw [h.cellAt (i := M1) (by rw [HM.out, HM1.out]; omega), ← HL1.out]
          simp
        have hini := (show OwnI w8 w.heap.size (.slice (some ⟨g9, 0, none⟩) (M1 + 1) vc) (l0 ++ [x9]) from HM1.out ▸ O8.out).init
        have HOI := Lib.hid hini.2.2
        rw [List.dropLast_concat] at HOI
        have hcap := hini.2.1
        have SS := Lib.hid (show SW w p m k g (C + 3) qb C s' t'' (.slice (some ⟨g9, 0, none⟩) M1 vc) l0 w8 from ⟨S8.out, HD'.out.1, HOI.out, fun y hy => S.out.r y (by simp [hy])⟩)
        clear S8 O8 S hc0 q0 q1 q2 q3 hini HOI hx9
        have hMb : M < 100 := by have h1 := HD'.out.1.cap; have := HC.out; have := HL1.out; have := HM1.out; omega
        have hm1 : (M : Int) - 1 = (M1 : Int) := by have := HM1.out; omega
        have hm2 : (0 : Int) ≤ (M1 : Int) := by omega
        have hm3 : (M1 : Int) < (M : Int) := by have := HM1.out; omega
        have hm4 : M1 ≤ vc := by omega
        clear hcap hMp
        go_wp2_with fail
        go_roundw
        case rel => exact ⟨j + 1, s', t'', l0, by omega, by go_num, SS.out, HD'.out.2⟩
        case measure => simp [intOf]; omega
end Go.Proofs.Ytplifdmfoeejaaa
