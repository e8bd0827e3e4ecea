/-
  The walk of the statement ThiefQueue: it returns true.
-/
import Derived.Test.YtplifdmfoeejaaaTaw
import Derived.Test.YtplifdmfoeejaaaMgAY
import Derived.Test.YtplifdmfoeejaaaOwnQ
import Derived.Test.YtplifdmfoeejaaaMgAK
namespace Go.Proofs.Ytplifdmfoeejaaa
open Go Go.RowKit Go.Shelf
set_option linter.unusedSimpArgs false
set_option linter.unusedVariables false

/-- The queue, a part of a row of the call's own, beside what the law carries along. -/
structure QW (w0 : World) (p m k g cap : Nat) (qb n : Nat) (s : St) (t : Nat) (v : Value) (ws : List Int) (w : World) : Prop where
  a : AW w0 p m k g cap hd0 nilV nilV 0 0 qb n s w
  d : DQ s n t ws
  o : OwnQ w w0.heap.size v ws
  r : ∀ x, x ∈ ws → 0 ≤ x ∧ x ≤ 1000
section
variable {w0 w w' : World} {p m k g cap : Nat} {qb n : Nat} {s s' : St} {t : Nat} {v : Value} {ws : List Int}
theorem QW.below (h : QW w0 p m k g cap qb n s t v ws w) (hb : Below w.heap.size w w') : QW w0 p m k g cap qb n s t v ws w' := ⟨h.a.below hb, h.d, h.o.below hb, h.r⟩
theorem ownQ_alone {ty : TypeId} {post : List Value} {f : Fra} {cd vl : Int} {x : Nat} (h : OwnQ w w0.heap.size v ws) (ha : AW w0 p m k g cap hd0 nilV nilV 0 0 qb n s w) (ho : OB w x ty post f cd vl) (ht : ty ≠ 3) (hf : Fr [m, g, x] w w') : OwnQ w' w0.heap.size v ws := by
  obtain ⟨cur, hg, _⟩ := ha.e.mem.row.blk
  refine h.same (fun j hj => hf.block j (h.lt j hj).2 (fun hm => ?_))
  obtain ⟨c5, hc5⟩ := h.ty j hj
  simp only [List.mem_cons, List.not_mem_nil, or_false] at hm
  rcases hm with rfl | rfl | rfl
  · exact absurd (ty_at hc5 ha.e.mem.blk) (by decide)
  · exact absurd (ty_at hc5 hg) (by decide)
  · exact ht (ty_at hc5 ho.blk).symm
theorem AW.appQ (h : AW w0 p m k g cap hd0 nilV nilV 0 0 qb n s w) (ho : OwnQ w w0.heap.size v ws) (hg : w.grownBy w' v.ownBlock) : AW w0 p m k g cap hd0 nilV nilV 0 0 qb n s w' := by
  obtain ⟨cur, hgb, hrest⟩ := h.e.mem.row.blk
  have b1 := h.e.blk.appQ ho hg (by decide)
  have b2 := h.e.mem.blk.appQ ho hg (by decide)
  have b3 := Blk.appQ h.e.clk ho hg (by decide)
  have b4 := hgb.appQ ho hg (by decide)
  exact ⟨⟨b1, h.e.len, ⟨b2, ⟨h.e.mem.row.len, h.e.mem.row.le, h.e.mem.row.max, cur, b4, hrest⟩, h.e.mem.small⟩, b3⟩, h.q.appQ ho hg (by decide), h.n, below_appQ h.b ho hg, h.lo⟩
end
/-- What the loop keeps. -/
def QueR (w : World) (p m k g cap qb n t0 : Nat) (L : Nat) (i v : Value) (wr : World) : Prop :=
  ∃ (j : Nat) (s : St) (t : Nat) (ws : List Int), j ≤ L ∧ i = .int .i64 j ∧ QW w p m k g cap qb n s t v ws wr ∧ t + ws.length ≤ t0 + j
theorem wrap_sm {x : Int} (h : 0 ≤ x ∧ x ≤ 1000) : IntKind.u64.wrap x = x ∧ IntKind.i64.wrap x = x ∧ wrap64 x = x := ⟨IntWalk.u64_in _ (by omega), IntWalk.i64_in _ (by omega), by unfold wrap64; omega⟩
theorem drw3 (d : Int) : drw d 3 = 0 ∨ drw d 3 = 1 ∨ drw d 3 = 2 := by
  have h := tmod_in d 3 (by omega)
  by_cases hn : d.tmod 3 < 0
  · rw [drw_neg d 3 (by omega) hn]
    omega
  · rw [drw_pos d 3 (by omega) hn]
    omega

set_option maxRecDepth 100000 in
set_option maxHeartbeats 16000000 in
theorem queue_law {w : World} {la : Option Addr} {L : Nat} {lz : List Int} (n : Int) (t : Nat) (lc : Nat) (hn : 0 ≤ n ∧ n ≤ 255) (ht : t < 18446744073709551616) (hl : InInts w la L lz) :
    Calls Try.prog 5 #[.int .u8 n, .int .u64 t, .slice la L lc] w fun e w' => e = .returned (.bool true) ∧ Below w.heap.size w w' := by
  have hml := hl.2.1
  unfold maxLen at hml
  have HL := Lib.hid hl
  clear hl
  by_cases h100 : 100 < L
  · go_enter Try.func5, Try.ntmps5
    go_wp2
    go_ret
    exact ⟨rfl, Below.refl _ _⟩
  have h101 : decide (100 < (L : Int)) = false := decide_eq_false (by omega)
  obtain ⟨C, hC, hC2⟩ : ∃ C : Nat, 1 + n % 9 = (C : Int) ∧ (1 ≤ C ∧ C ≤ 9) := ⟨(1 + n % 9).toNat, by omega, by omega⟩
  obtain ⟨t2, ht2, ht3⟩ : ∃ t2 : Nat, (t : Int) / 2 = (t2 : Int) ∧ t2 < 9223372036854775808 := ⟨t / 2, by omega, by omega⟩
  have HC := Lib.hid (And.intro hC2 ht3)
  have HLL := Lib.hid h100
  have HNL := Lib.hid (show InInts w none 0 [] from ⟨rfl, by simp, fun i hi => absurd hi (by omega)⟩)
  go_enter Try.func5, Try.ntmps5
  go_wp2_with fail
  (with_reducible refine (queue_any C _).mono ?_)
  rintro e w2 ⟨rfl, hb2⟩
  have B2 := Lib.hid hb2
  clear hb2
  go_upto_region 5 with fail
  have Q3 := Lib.hid (Blk.made w2 25 (qcells 0 1 2 C))
  have B3 := Lib.hid (B2.out.alloc B2.out.size (.cells (qcells 0 1 2 C) 25))
  have HQB := Lib.hid B2.out.size
  generalize w2.alloc (.cells (qcells 0 1 2 C) 25) = W3 at *
  generalize w2.heap.size = qb at *
  clear B2
  have hdq0 := deque_any (HNL.out.below B3.out) 0 C t2 0 (by omega) (by omega) (by omega)
  rw [show ((0 : Nat) : Int) = 0 from rfl] at hdq0
  have HDQ0 := Lib.hid hdq0
  clear hdq0
  go_wp2_with fail
  (with_reducible refine HDQ0.out.mono ?_)
  rintro e w4 ⟨gd, X, l, rfl, hr4, hX, hg4, hb4, hll, _, hdx⟩
  have hl0 : l = [] := List.eq_nil_of_length_eq_zero hll
  subst hl0
  obtain ⟨hd1, hd2⟩ := hdx (by omega)
  have Q4 := Lib.hid (Q3.out.below hb4)
  have B4 := Lib.hid (B3.out.trans (hb4.mono B3.out.size))
  have R4 := Lib.hid hr4
  have HXX := Lib.hid (And.intro hX (And.intro hd1 hd2))
  clear hr4 hX hg4 hb4 Q3 B3 hd1 hd2 hdx hll
  go_wp2_with fail
  (with_reducible refine (mbare_any R4.out.inW (C + 3) (by omega)).mono ?_)
  rintro e w5 ⟨p, m, k, g, q, ag, acap, s, rfl, hd, hsX, hsc, hb5⟩
  have hs4 := B4.out.size
  have hdq := DQ.ofX hsX R4.out.len HXX.out.2.1 HXX.out.2.2 (by simp) (by omega)
  have A5 := Lib.hid (show AW w p m k g (C + 3) hd0 nilV nilV 0 0 qb C s w5 from ⟨hd.e, Q4.out.below hb5, Row.inNN HXX.out.1 hsX, B4.out.trans (hb5.mono hs4), Nat.le_trans hs4 hd.bp, Nat.le_trans hs4 hd.bm, Nat.le_trans hs4 hd.bk, Nat.le_trans hs4 hd.bg, HQB.out⟩)
  have DQ5 := Lib.hid hdq
  clear hd hsX hsc hb5 Q4 HXX R4 hs4 hdq B4
  go_wp2_with fail
  (with_reducible refine (awake10_any _).mono ?_)
  rintro e w6 ⟨rfl, hb6⟩
  have S6 := Lib.hid (show QW w p m k g (C + 3) qb C s t2 nilV [] w6 from ⟨A5.out.below hb6, DQ5.out, OwnQ.nil _ _, by simp⟩)
  clear hb6 A5 DQ5
  go_wp2_with fail
  go_loopw [13, 12] (fun i v wr => QueR w p m k g (C + 3) qb C t2 L i v wr) (fun i _ _ => L - (intOf i).toNat)
  case atStart => exact ⟨0, s, t2, [], by omega, rfl, S6.out, by simp⟩
  case round =>
    clear S6
    obtain ⟨j, s, t', ws, hj, rfl, hS, hsum⟩ := hrel
    have S := Lib.hid hS
    have HSUM := Lib.hid hsum
    obtain ⟨va, vc, hvf, _, _⟩ := hS.o.form
    obtain ⟨M, hM⟩ : ∃ M, ws.length = M := ⟨_, rfl⟩
    rw [hM] at hvf
    subst hvf
    have HM := Lib.hid hM
    clear hS hsum hM
    by_cases hlt : j < L
    case neg =>
      obtain rfl : j = L := by omega
      go_wp2
      go_ret
      exact ⟨rfl, S.out.a.b⟩
    obtain ⟨x0, rfl, hx0, hc0⟩ := (HL.out.below S.out.a.b).2.2 j hlt
    generalize lz.getD j 0 = z at *
    have hj0 : (0 : Int) ≤ (j : Int) := by omega
    have hj1 : (j : Int) < (L : Int) := by omega
    have hj2 : j ≤ 100 := by omega
    have HJ := Lib.hid hj2
    have HZ := Lib.hid (drw3 z)
    go_wp2_with fail
    (with_reducible refine (rdraw_any z 3 (by omega) _).mono ?_)
    rintro e w7 ⟨rfl, rfl⟩
    generalize drw z 3 = d at *
    have q0 : wr.cell? ⟨qb, 0, none⟩ = some (.int .i64 0) := S.out.a.q.at_ 0
    have q1 : wr.cell? ⟨qb, 1, none⟩ = some (.int .i64 1) := S.out.a.q.at_ 1
    have q2 : wr.cell? ⟨qb, 2, none⟩ = some (.int .i64 2) := S.out.a.q.at_ 2
    have q3 : wr.cell? ⟨qb, 3, none⟩ = some (.int .i64 C) := S.out.a.q.at_ 3
    clear hc0 hx0
    rcases HZ.out with rfl | rfl | rfl
    · go_wp2_with fail
      (with_reducible refine (oPush_any 0 1 2 C j _).mono ?_)
      rintro e w7 ⟨x, rfl, ho, hx, hb7⟩
      have S7 := Lib.hid (S.out.a.below hb7)
      have O7 := Lib.hid (S.out.o.below hb7)
      have HO7 := Lib.hid (And.intro ho (show w.heap.size ≤ x from Nat.le_trans S.out.a.b.size hx))
      clear ho hx hb7 q0 q1 q2 q3
      by_cases hfull : C = M
      · subst hfull
        obtain ⟨s', hr, hd'⟩ := S.out.d.full HM.out j
        have HD' := Lib.hid hd'
        have HRR := Lib.hid hr
        have hmc : decide ((C : Int) < (C : Int)) = false := by simp
        clear hd' hr
        go_wp2_with fail
        (with_reducible refine (alone_pusher S7.out.e HO7.out.1 S7.out.n (pushOk1 C (by omega) j) HRR.out).mono ?_)
        rintro e w8 ⟨rfl, hp8, hf8⟩
        have S8 := Lib.hid (S7.out.done HO7.out.1 (by decide) HO7.out.2 hp8 hf8 (runS_N push_keeps 20 S7.out.n (pushOk1 C (by omega) j) HRR.out))
        have O8 := Lib.hid (ownQ_alone O7.out S7.out HO7.out.1 (by decide) hf8)
        clear hp8 hf8 S7 O7 HO7
        have SS := Lib.hid (show QW w p m k g (C + 3) qb C s' t' (.slice va C vc) ws w8 from ⟨S8.out, HD'.out, O8.out, S.out.r⟩)
        clear S8 O8 S
        go_wp2_with fail
        go_roundw
        case rel => exact ⟨j + 1, s', t', ws, by omega, by go_num, SS.out, by have := HSUM.out; omega⟩
        case measure => simp [intOf]; omega
      · have hMC : M < C := by have := S.out.d.cap; have := HM.out; omega
        obtain ⟨s', hr, hd'⟩ := S.out.d.push (by rw [HM.out]; exact hMC) (by rw [HM.out]; have := HSUM.out; rw [HM.out] at this; have := HC.out; omega) j
        rw [(wrap_sm (x := (j : Int)) ⟨by omega, by omega⟩).1] at hd'
        have HD' := Lib.hid hd'
        have HRR := Lib.hid hr
        have hmc : decide ((M : Int) < (C : Int)) = true := by simp; omega
        have hM9 : M ≤ 100 := by omega
        clear hd' hr
        go_wp2_with fail
        (with_reducible refine (alone_pusher S7.out.e HO7.out.1 S7.out.n (pushOk1 C (by omega) j) HRR.out).mono ?_)
        rintro e w8 ⟨rfl, hp8, hf8⟩
        have S8 := Lib.hid (S7.out.done HO7.out.1 (by decide) HO7.out.2 hp8 hf8 (runS_N push_keeps 20 S7.out.n (pushOk1 C (by omega) j) HRR.out))
        have O8 := Lib.hid (ownQ_alone O7.out S7.out HO7.out.1 (by decide) hf8)
        clear hp8 hf8 S7 O7 HO7
        have hn9 : ws.length + 1 ≤ 1000000 := by rw [HM.out]; omega
        have AO := Lib.hid (O8.out.below (below_one w8 (.cells #[.int .i64 j] 3)))
        have AA := Lib.hid (S8.out.below (below_one w8 (.cells #[.int .i64 j] 3)))
        have hbw : w.heap.size ≤ (w8.alloc (.cells #[.int .i64 j] 3)).heap.size := AA.out.b.size
        have HWR := Lib.hid S.out.r
        clear O8 S
        go_wp2_with
          (at_builtin
           refine wpList_appQ rfl _ _ rfl rfl AO.out (ns := [(j : Int)]) rfl rfl (by omega) (ints_new w8 [(j : Int)]) hn9 hbw ?_
           intro v9 w9 hown9 hg9
           have A9 := Lib.hid (AA.out.appQ AO.out hg9)
           have O9 := Lib.hid hown9
           clear hown9 hg9)
        go_roundw
        case rel =>
          refine ⟨j + 1, s', t', ws ++ [(j : Int)], by omega, by go_num, ⟨A9.out, HD'.out, O9.out, fun y hy => ?_⟩, by have := HSUM.out; simp; omega⟩
          rcases List.mem_append.1 hy with h | h
          · exact HWR.out y h
          · simp at h
            rw [h]
            exact ⟨by omega, by have := HJ.out; omega⟩
        case measure => simp [intOf]; omega
    · go_wp2_with fail
      (with_reducible refine (oPop_any 0 1 2 C _).mono ?_)
      rintro e w7 ⟨x, rfl, ho, hx, hb7⟩
      have S7 := Lib.hid (S.out.a.below hb7)
      have O7 := Lib.hid (S.out.o.below hb7)
      have HO7 := Lib.hid (And.intro ho (show w.heap.size ≤ x from Nat.le_trans S.out.a.b.size hx))
      clear ho hx hb7 q0 q1 q2 q3
      rcases Nat.eq_zero_or_pos M with hM0 | hMp
      · subst hM0
        obtain rfl : ws = [] := List.eq_nil_of_length_eq_zero HM.out
        obtain ⟨s', hr, hd'⟩ := S.out.d.none
        have HD' := Lib.hid hd'
        have HRR := Lib.hid hr
        clear hd' hr
        go_wp2_with fail
        (with_reducible refine (alone_popper S7.out.e HO7.out.1 S7.out.n (popOk1 C (by omega)) HRR.out).mono ?_)
        rintro e w8 ⟨rfl, hp8, hf8⟩
        have S8 := Lib.hid (S7.out.done HO7.out.1 (by decide) HO7.out.2 hp8 hf8 (runS_N pop_keeps 20 S7.out.n (popOk1 C (by omega)) HRR.out))
        have O8 := Lib.hid (ownQ_alone O7.out S7.out HO7.out.1 (by decide) hf8)
        clear hp8 hf8 S7 O7 HO7
        have SS := Lib.hid (show QW w p m k g (C + 3) qb C s' t' (.slice va 0 vc) [] w8 from ⟨S8.out, HD'.out, O8.out, S.out.r⟩)
        clear S8 O8 S
        go_wp2_with fail
        go_roundw
        case rel => exact ⟨j + 1, s', t', [], by omega, by go_num, SS.out, by have := HSUM.out; simp at this ⊢; omega⟩
        case measure => simp [intOf]; omega
      · obtain ⟨l0, x9, rfl⟩ := list_last (l := ws) (by rw [HM.out]; exact hMp)
        obtain ⟨M1, hM1⟩ : ∃ M1, M = M1 + 1 := ⟨M - 1, by omega⟩
        have hl1 : l0.length = M1 := by have := HM.out; simp at this; omega
        have hx9 := S.out.r x9 (by simp)
        obtain ⟨g9, o9, c9, hv9, hc9, _⟩ := S.out.o.at0 (by rw [HM.out]; omega)
        rw [HM.out] at hv9
        obtain ⟨rfl, rfl⟩ : va = some ⟨g9, o9, none⟩ ∧ vc = c9 := by simpa using hv9
        have hrun : ∃ s' t'' N, runS popS 20 s (fra1 1 0 1 2 C 0) = some (s', ⟨true, 1, x9⟩, N) ∧ DQ s' C t'' l0 ∧ t'' + l0.length ≤ t2 + (j + 1) := by
          have hsum := HSUM.out
          have hlt2 := HC.out.2
          simp only [List.length_append, List.length_cons, List.length_nil, Nat.zero_add] at hsum
          rcases Nat.eq_zero_or_pos l0.length with h0 | h0
          · obtain rfl : l0 = [] := List.eq_nil_of_length_eq_zero h0
            obtain ⟨s', hr, hd'⟩ := DQ.last (v := x9) S.out.d (by simp at hsum; omega)
            rw [(wrap_sm hx9).2.1] at hr
            exact ⟨s', t' + 1, 7, hr, hd', by simp at hsum ⊢; omega⟩
          · obtain ⟨s', hr, hd'⟩ := DQ.pop (v := x9) S.out.d h0 (by omega)
            rw [(wrap_sm hx9).2.1] at hr
            exact ⟨s', t', 5, hr, hd', by omega⟩
        obtain ⟨s', t'', N, hr, hd', hs'⟩ := hrun
        have HD' := Lib.hid (And.intro hd' hs')
        have HRR := Lib.hid hr
        have HM1 := Lib.hid hM1
        have HL1 := Lib.hid hl1
        clear hM1 hl1 hd' hr hs' hv9 hc9
        go_wp2_with fail
        (with_reducible refine (alone_popper S7.out.e HO7.out.1 S7.out.n (popOk1 C (by omega)) HRR.out).mono ?_)
        rintro e w8 ⟨rfl, hp8, hf8⟩
        have S8 := Lib.hid (S7.out.done HO7.out.1 (by decide) HO7.out.2 hp8 hf8 (runS_N pop_keeps 20 S7.out.n (popOk1 C (by omega)) HRR.out))
        have O8 := Lib.hid (ownQ_alone O7.out S7.out HO7.out.1 (by decide) hf8)
        clear hp8 hf8 S7 O7 HO7
        have hO8 := O8.out
        rw [HM1.out] at hO8
        have hcell : w8.cell? ⟨g9, o9 + M1, none⟩ = some (.int .i64 x9) := by
          obtain ⟨g', o', c', e', _, hc'⟩ := hO8.at0 (by simp)
          simp only [Value.slice.injEq, Option.some.injEq, Addr.mk.injEq] at e'
          obtain ⟨⟨rfl, rfl, _⟩, _, _⟩ := e'
          rw [hc' M1 (by simp [HL1.out]), ← HL1.out]
          simp
        obtain ⟨_, hcap, hini⟩ := hO8.init
        rw [List.dropLast_concat] at hini
        have SS := Lib.hid (show QW w p m k g (C + 3) qb C s' t'' (.slice (some ⟨g9, o9, none⟩) M1 vc) l0 w8 from ⟨S8.out, HD'.out.1, hini, fun y hy => S.out.r y (by simp [hy])⟩)
        clear S8 O8 S hini hO8 hx9
        have hMb : M < 100 := by have h1 := HD'.out.1.cap; have := HC.out; have := HL1.out; have := HM1.out; omega
        have hm1 : (M : Int) - 1 = (M1 : Int) := by have := HM1.out; omega
        have hm2 : (0 : Int) ≤ (M1 : Int) := by omega
        have hm3 : (M1 : Int) < (M : Int) := by have := HM1.out; omega
        have hm4 : M1 ≤ vc := by omega
        have hm5 : decide (0 < (M : Int)) = true := by simp; omega
        clear hcap hMp
        go_wp2_with fail
        go_roundw
        case rel => exact ⟨j + 1, s', t'', l0, by omega, by go_num, SS.out, HD'.out.2⟩
        case measure => simp [intOf]; omega
    · go_wp2_with fail
      (with_reducible refine (oSteal_any 0 1 2 C _).mono ?_)
      rintro e w7 ⟨x, rfl, ho, hx, hb7⟩
      have S7 := Lib.hid (S.out.a.below hb7)
      have O7 := Lib.hid (S.out.o.below hb7)
      have HO7 := Lib.hid (And.intro ho (show w.heap.size ≤ x from Nat.le_trans S.out.a.b.size hx))
      clear ho hx hb7 q0 q1 q2 q3
      rcases Nat.eq_zero_or_pos M with hM0 | hMp
      · subst hM0
        obtain rfl : ws = [] := List.eq_nil_of_length_eq_zero HM.out
        obtain ⟨s', hr, hd'⟩ := S.out.d.steal_none 2
        have HD' := Lib.hid hd'
        have HRR := Lib.hid hr
        clear hd' hr
        go_wp2_with fail
        (with_reducible refine (alone_stealer S7.out.e HO7.out.1 S7.out.n (stealOk1 C (by omega)) HRR.out).mono ?_)
        rintro e w8 ⟨rfl, hp8, hf8⟩
        have S8 := Lib.hid (S7.out.done HO7.out.1 (by decide) HO7.out.2 hp8 hf8 (runS_N steal_keeps 20 S7.out.n (stealOk1 C (by omega)) HRR.out))
        have O8 := Lib.hid (ownQ_alone O7.out S7.out HO7.out.1 (by decide) hf8)
        clear hp8 hf8 S7 O7 HO7
        have SS := Lib.hid (show QW w p m k g (C + 3) qb C s' t' (.slice va 0 vc) [] w8 from ⟨S8.out, HD'.out, O8.out, S.out.r⟩)
        clear S8 O8 S
        go_wp2_with fail
        go_roundw
        case rel => exact ⟨j + 1, s', t', [], by omega, by go_num, SS.out, by have := HSUM.out; simp at this ⊢; omega⟩
        case measure => simp [intOf]; omega
      · obtain ⟨x9, l0, rfl⟩ : ∃ x9 l0, ws = x9 :: l0 := by
          cases ws with
          | nil => have := HM.out; simp at this; omega
          | cons a b => exact ⟨a, b, rfl⟩
        obtain ⟨M1, hM1⟩ : ∃ M1, M = M1 + 1 := ⟨M - 1, by omega⟩
        have hl1 : l0.length = M1 := by have := HM.out; simp at this; omega
        have hx9 := S.out.r x9 (by simp)
        obtain ⟨g9, o9, c9, hv9, hc9, _⟩ := S.out.o.at0 (by rw [HM.out]; omega)
        rw [HM.out] at hv9
        obtain ⟨rfl, rfl⟩ : va = some ⟨g9, o9, none⟩ ∧ vc = c9 := by simpa using hv9
        obtain ⟨s', hr, hd'⟩ := DQ.steal S.out.d (by have h1 := HSUM.out; have := HC.out; simp at h1; omega) 2
        rw [(wrap_sm hx9).2.2] at hr
        have HD' := Lib.hid hd'
        have HRR := Lib.hid hr
        have HM1 := Lib.hid hM1
        have HL1 := Lib.hid hl1
        clear hM1 hl1 hd' hr hv9 hc9
        go_wp2_with fail
        (with_reducible refine (alone_stealer S7.out.e HO7.out.1 S7.out.n (stealOk1 C (by omega)) HRR.out).mono ?_)
        rintro e w8 ⟨rfl, hp8, hf8⟩
        have S8 := Lib.hid (S7.out.done HO7.out.1 (by decide) HO7.out.2 hp8 hf8 (runS_N steal_keeps 20 S7.out.n (stealOk1 C (by omega)) HRR.out))
        have O8 := Lib.hid (ownQ_alone O7.out S7.out HO7.out.1 (by decide) hf8)
        clear hp8 hf8 S7 O7 HO7
        have hO8 := O8.out
        rw [HM1.out] at hO8
        have hcell : w8.cell? ⟨g9, o9, none⟩ = some (.int .i64 x9) := by
          obtain ⟨g', o', c', e', _, hc'⟩ := hO8.at0 (by simp)
          simp only [Value.slice.injEq, Option.some.injEq, Addr.mk.injEq] at e'
          obtain ⟨⟨rfl, rfl, _⟩, _, _⟩ := e'
          exact hc' 0 (by simp)
        obtain ⟨_, hcap, ht1, ht2'⟩ := hO8.tail
        have hm5 : decide (0 < (M : Int)) = true := by simp; omega
        have hMb : M < 100 := by have h1 := HD'.out.cap; have := HC.out; have := HL1.out; have := HM1.out; omega
        have hm1 : (M : Int) - 1 = (M1 : Int) := by have := HM1.out; omega
        have hm2 : (1 : Int) ≤ (M : Int) := by omega
        have hsum2 : t' + 1 + l0.length ≤ t2 + (j + 1) := by have := HSUM.out; simp at this; omega
        have HS2 := Lib.hid hsum2
        clear hsum2
        have HT := Lib.hid (And.intro ht1 ht2')
        clear ht1 ht2' hO8 O8
        by_cases hc1 : vc = 1
        · have HC1 := Lib.hid hc1
          go_wp2_with fail
          go_roundw
          case rel =>
            have hv := HT.out.1 HC1.out
            rw [show M1 = M - 1 by have := HM1.out; omega, show vc - 1 = 0 by have := HC1.out; omega] at hv
            exact ⟨j + 1, s', t' + 1, l0, by omega, by go_num, ⟨S8.out, HD'.out, hv, fun y hy => S.out.r y (by simp [hy])⟩, HS2.out⟩
          case measure => simp [intOf]; omega
        · have hc2 : (vc == 1) = false := by simpa using hc1
          go_wp2_with fail
          go_roundw
          case rel =>
            have hv := HT.out.2
            rw [show M1 = M - 1 by have := HM1.out; omega] at hv
            exact ⟨j + 1, s', t' + 1, l0, by omega, by go_num, ⟨S8.out, HD'.out, hv, fun y hy => S.out.r y (by simp [hy])⟩, HS2.out⟩
          case measure => simp [intOf]; omega
end Go.Proofs.Ytplifdmfoeejaaa
