/-
  The walk of the statement LevelsStacks: it returns true.
-/
import Derived.Test.YtmoblcfjplolgaaMgBT
import Derived.Test.YtmoblcfjplolgaaMgBR
import Derived.Deep.RegionHeld3
import Derived.Deep.Cut
import Derived.Deep.CutRange
import Derived.LoopTactic
namespace Go.Proofs.Ytmoblcfjplolgaa
open Go Go.RowKit Go.Shelf
set_option linter.unusedSimpArgs false
set_option linter.unusedVariables false

theorem list_end {α : Type} {l : List α} (h : l ≠ []) : ∃ l0 x, l = l0 ++ [x] := ⟨l.dropLast, l.getLast h, (List.dropLast_concat_getLast h).symm⟩
theorem wrap_small {x : Int} (h : 0 ≤ x ∧ x < 1000) : IntKind.u64.wrap x = x ∧ IntKind.i64.wrap x = x := by
  rw [IntKind.wrap_u64, IntKind.wrap_i64]
  omega
/-- What the loop keeps. -/
def StksR (w : World) (p m k g cap : Nat) (c : Cfg) (hd : List Value) (rv : Value) (n kk gs L : Nat) (i : Value) (wr : World) : Prop :=
  ∃ (j : Nat) (s : St) (T : Nat → Nat) (ls : Nat → List Int) (V : List Value), j ≤ L ∧ i = .int .i64 j ∧ SV w p m k g cap c hd rv n kk gs s T ls V j wr

set_option maxRecDepth 100000 in
set_option maxHeartbeats 16000000 in
theorem stacks13_law {w : World} {la : Option Addr} {L : Nat} {lz : List Int} (n0 k0 : Int) (lc : Nat) (hn0 : 0 ≤ n0 ∧ n0 ≤ 255) (hk0 : 0 ≤ k0 ∧ k0 ≤ 255) (hl : InInts w la L lz ∧ ∀ x, x ∈ lz → -9223372036854775808 ≤ x ∧ x ≤ 9223372036854775807) :
    Calls Try.prog 3 #[.int .u8 n0, .int .u8 k0, .slice la L lc] w fun e w' => e = .returned (.bool true) ∧ Below w.heap.size w w' := by
  have hml := hl.1.2.1
  unfold maxLen at hml
  have HL := Lib.hid hl
  clear hl
  by_cases h80 : 80 < L
  · go_enter Try.func3, Try.ntmps3
    go_wp2
    go_ret
    exact ⟨rfl, Below.refl _ _⟩
  have h81 : decide (80 < (L : Int)) = false := decide_eq_false (by omega)
  obtain ⟨n, hn, hn2⟩ : ∃ n : Nat, 1 + n0 % 5 = (n : Int) ∧ (1 ≤ n ∧ n ≤ 5) := ⟨(1 + n0 % 5).toNat, by omega, by omega⟩
  obtain ⟨kk, hkk, hkk2⟩ : ∃ kk : Nat, 1 + k0 % 4 = (kk : Int) ∧ (1 ≤ kk ∧ kk ≤ 4) := ⟨(1 + k0 % 4).toNat, by omega, by omega⟩
  have HN := Lib.hid hn2
  have HK := Lib.hid hkk2
  have HT := Lib.hid (two_any n kk w)
  go_enter Try.func3, Try.ntmps3
  go_wp2_with fail
  (with_reducible refine HT.out.mono ?_)
  rintro e w1 ⟨pa, pn, pc, sa, sn, sc, rfl, hl, hb1⟩
  have hck : chk (twoC n kk) = 0 := two_chk HN.out HK.out
  have HLV := Lib.hid (two_lv (n := n) (k := kk) ⟨HN.out.1, by have := HN.out.2; omega⟩ ⟨HK.out.1, by have := HK.out.2; omega⟩)
  have HNW := Lib.hid (two_new (n := n) (k := kk) ⟨HN.out.1, by have := HN.out.2; omega⟩ ⟨HK.out.1, by have := HK.out.2; omega⟩)
  obtain ⟨c, hcc⟩ : ∃ c, twoC n kk = c := ⟨_, rfl⟩
  rw [hcc] at hl hck HLV HNW ⊢
  have HCK := Lib.hid hck
  have H1 := Lib.hid hl
  have B1 := Lib.hid hb1
  clear hl hb1 HT hck hcc hn hn2 hkk hkk2
  go_wp2_with fail
  (with_reducible refine (enew_any H1.out _ _ HCK.out).mono ?_)
  rintro e w2 ⟨p, m, k, g, hd, rv, rfl, hE⟩
  have E2 := Lib.hid (show EW w p m k g _ c hd rv (.slice none 0 0) _ w2 from ⟨hE.e, hE.l, hE.i, hE.u, B1.out.trans (hE.b.mono B1.out.size), by have := hE.lo; have := B1.out.size; omega⟩)
  clear hE B1 H1 HCK
  go_wp2_with fail
  (with_reducible refine (awake13_any _).mono ?_)
  rintro e w3 ⟨rfl, hb⟩
  have E3 := Lib.hid (E2.out.below hb)
  have e20 := E3.out.e.at20
  clear hb E2
  generalize (rCells c).toNat = cap at *
  generalize St.new cap = s0 at *
  go_upto_region 7 with fail
  clear e20
  have hn5 : n ≤ 5 := HN.out.2
  have hmk := fun (W : World) => run_make_row' (P := Try.prog) 41 22 (.slice none 0 0) 24 Try.underlying41 info_ints rfl .i64 .i64 n (by omega) (by omega) W
  go_upto_region 8 with fail
  have V4 := Lib.hid (show SV w p m k g cap c hd rv n kk w3.heap.size s0 (fun _ => 0) (fun _ => []) (List.replicate n (.slice none 0 0)) 0 (w3.alloc (.cells (madeCells #[.slice none 0 0] n) 22)) from ⟨E3.out.below (below_one w3 _), HNW.out, SO.made E3.out.b.size n, fun a ha x hx => by cases hx⟩)
  generalize w3.alloc (.cells (madeCells #[.slice none 0 0] n) 22) = W4 at *
  generalize w3.heap.size = gs at *
  clear E3 HNW hmk
  go_wp2_with fail
  go_loopw [12] (fun i wr => StksR w p m k g cap c hd rv n kk gs L i wr) (fun i _ => L - (intOf i).toNat)
  case atStart => exact ⟨0, s0, _, _, _, by omega, rfl, V4.out⟩
  case round =>
    clear V4
    obtain ⟨j, s, T, ls, V, hj, rfl, hV⟩ := hrel
    have S0 := Lib.hid hV
    clear hV
    by_cases hlt : j < L
    case neg =>
      obtain rfl : j = L := by omega
      go_wp2
      go_ret
      exact ⟨rfl, S0.out.e.b⟩
    obtain ⟨x0, rfl, hx0, hc0⟩ := (HL.out.1.below S0.out.e.b).2.2 j hlt
    obtain ⟨z, hz⟩ : ∃ z, lz.getD j 0 = z := ⟨_, rfl⟩
    have hzr : -9223372036854775808 ≤ z ∧ z ≤ 9223372036854775807 := by
      rw [← hz, List.getD_eq_getElem?_getD, List.getElem?_eq_getElem (by rw [HL.out.1.1]; exact hlt)]
      exact HL.out.2 _ (List.getElem_mem _)
    rw [hz] at hc0
    have HZ := Lib.hid (And.intro hz hzr)
    clear hz hx0
    have hj0 : (0 : Int) ≤ (j : Int) := by omega
    have hj1 : (j : Int) < (L : Int) := by omega
    have HJB := Lib.hid (show j < L ∧ j ≤ 80 by omega)
    by_cases hpos : 0 < z
    · have hn0 : ¬ (n : Int) = 0 := by have := HN.out; omega
      obtain ⟨a, ha, han⟩ : ∃ a : Nat, z % (n : Int) = (a : Int) ∧ a < n := ⟨(z % (n : Int)).toNat, by have := Int.emod_nonneg z hn0; omega, by have := Int.emod_nonneg z hn0; have := Int.emod_lt_of_pos z (show (0 : Int) < n by omega); omega⟩
      have HA0 := Lib.hid (And.intro ha han)
      have ha0 : (0 : Int) ≤ (a : Int) := by omega
      have ha1 : (a : Int) < (n : Int) := by omega
      clear ha
      obtain ⟨va, vc, hvf, hvc, _⟩ := (S0.out.o.own a han).form
      obtain ⟨M, hM⟩ : ∃ M, (ls a).length = M := ⟨_, rfl⟩
      rw [hM] at hvf hvc
      have HVF := Lib.hid (And.intro hvf (And.intro hM hvc))
      clear hvf hM hvc han
      by_cases hfull : M = kk
      · obtain ⟨s', hr, hv'⟩ := S0.out.v.full HLV.out HA0.out.2 (by rw [HVF.out.2.1]; exact hfull) j
        have HRR := Lib.hid (And.intro hr hv')
        clear hr hv'
        subst hfull
        have hmc : ((M : Int) == (M : Int)) = true := by simp
        have hmd : (M == M) = true := by simp
        go_upto_region 13 with fail
        rw [HA0.out.1]
        go_wp2_with fail
        (with_reducible refine (lvPush_any 0 a j _).mono ?_)
        rintro e w4 ⟨b4, rfl, hv, hbl, hb⟩
        have S4 := Lib.hid (S0.out.below hb)
        have hne : gs ≠ b4 := by have := S0.out.o.blk.lt; omega
        have hA := alone_lvpusher (most := 30) S4.out.e.e S4.out.e.l S4.out.e.i hv S4.out.e.u (xu_new ⟨uw_zero, uw_zero, uw_zero, uw_zero⟩) HRR.out.1 (by decide) (by decide)
        rw [show ((30 : Nat) : Int) = 30 from rfl] at hA
        have HA := Lib.hid hA
        have HBL := Lib.hid (And.intro (Nat.le_trans S0.out.e.b.size hbl) (And.intro hne (v5_ty hv)))
        clear hA hv hbl hb hne hc0
        go_wp2_with fail
        (with_reducible refine HA.out.mono ?_)
        rintro e w5 ⟨rfl, hp, hf⟩
        have h5 := S4.out.alone HBL.out.1 HBL.out.2.1 HBL.out.2.2 hp hf HRR.out.2.u
        have S5 := Lib.hid (show SV w p m k g cap c hd rv n M gs s' T ls V (j + 1) w5 from ⟨h5.1, HRR.out.2.more (Nat.le_succ j), h5.2, S0.out.r⟩)
        have c5 : w5.cell? ⟨gs, a, none⟩ = some (.slice va M vc) := by rw [S5.out.o.cell HA0.out.2, HVF.out.1]
        clear hp hf S4 S0 HA HBL h5
        go_wp2_with fail
        go_roundw
        case rel => exact ⟨j + 1, s', T, ls, V, by have := HJB.out; omega, by go_num, S5.out⟩
        case measure => simp only [intOf]; have := HJB.out; omega
      · obtain ⟨s', hr, hv'⟩ := S0.out.v.push HLV.out HA0.out.2 (by have h1 := (S0.out.v.dq a HA0.out.2).cap; rw [HVF.out.2.1] at h1 ⊢; omega) (by have := HJB.out; omega) j
        rw [(wrap_small (x := (j : Int)) (by have := HJB.out; omega)).1] at hv'
        have HRR := Lib.hid (And.intro hr hv')
        clear hr hv'
        have hmc : ((M : Int) == (kk : Int)) = false := by simp; omega
        have hmd : (M == kk) = false := by simp; omega
        go_upto_region 13 with fail
        rw [HA0.out.1]
        go_wp2_with fail
        (with_reducible refine (lvPush_any 0 a j _).mono ?_)
        rintro e w4 ⟨b4, rfl, hv, hbl, hb⟩
        have S4 := Lib.hid (S0.out.below hb)
        have hne : gs ≠ b4 := by have := S0.out.o.blk.lt; omega
        have hA := alone_lvpusher (most := 30) S4.out.e.e S4.out.e.l S4.out.e.i hv S4.out.e.u (xu_new ⟨uw_zero, uw_zero, uw_zero, uw_zero⟩) HRR.out.1 (by decide) (by decide)
        rw [show ((30 : Nat) : Int) = 30 from rfl] at hA
        have HA := Lib.hid hA
        have HBL := Lib.hid (And.intro (Nat.le_trans S0.out.e.b.size hbl) (And.intro hne (v5_ty hv)))
        have HR0 := Lib.hid S0.out.r
        have HM := Lib.hid (show M < kk by have h1 := (S0.out.v.dq a HA0.out.2).cap; rw [HVF.out.2.1] at h1; omega)
        clear hA hv hbl hb hne hc0
        go_wp2_with fail
        (with_reducible refine HA.out.mono ?_)
        rintro e w5 ⟨rfl, hp, hf⟩
        have h5 := S4.out.alone HBL.out.1 HBL.out.2.1 HBL.out.2.2 hp hf HRR.out.2.u
        have E5 := Lib.hid h5.1
        have O5 := Lib.hid h5.2
        have c5 : w5.cell? ⟨gs, a, none⟩ = some (.slice va M vc) := by rw [O5.out.cell HA0.out.2, HVF.out.1]
        clear hp hf S4 S0 HA HBL h5
        go_upto_region 17 with fail
        have hbi := below_one w5 (.cells #[.int .i64 j] 3)
        have EA := Lib.hid (E5.out.below hbi)
        have OA := Lib.hid (O5.out.below hbi)
        have hrow := OA.out.own a HA0.out.2
        rw [HVF.out.1] at hrow
        have RA := Lib.hid hrow
        have hbw : w.heap.size ≤ (w5.alloc (.cells #[.int .i64 j] 3)).heap.size := EA.out.b.size
        have hn9 : (ls a).length + 1 ≤ 1000000 := by have := HVF.out.2.1; have := HM.out; have := HK.out; omega
        clear hbi E5 O5 hrow
        go_wp2_with
          (at_builtin
           refine wpList_appO rfl _ _ rfl rfl RA.out (ns := [(j : Int)]) rfl rfl (ints_new w5 [(j : Int)]) hn9 hbw ?_
           intro v9 w9 hown9 hg9 hnb9
           obtain ⟨a9, c9, hf9, _, _⟩ := hown9.form
           rw [List.length_append, HVF.out.2.1] at hf9
           obtain ⟨M9, hM9⟩ : ∃ M9, M + [(j : Int)].length = M9 := ⟨_, rfl⟩
           rw [hM9] at hf9
           have HF9 := Lib.hid hf9
           have hgb := OA.out.blk.appI RA.out hg9 (.inl (by decide))
           have g9 := hgb.at_ a
           have f9 : w9.frozen? ⟨gs, a, none⟩ = false := hgb.free a
           have g9' : w9.cell? ⟨gs, a, none⟩ = some (.slice va M vc) := by
             rw [hgb.at_, ← OA.out.blk.at_, OA.out.cell HA0.out.2, HVF.out.1]
           have H9 := Lib.hid (And.intro hown9 (And.intro hg9 hnb9))
           subst hf9
           clear hown9 hg9 hnb9 hgb g9 hM9)
        go_roundw
        case rel =>
          have hgf := grown_fr H9.out.2.1
          have hfin := SV.put (T' := T) (B' := j + 1) (kk := kk) EA.out OA.out HA0.out.2 (v' := .slice a9 M9 c9) (l' := ls a ++ [(j : Int)]) (by rw [HVF.out.1]; exact hgf) H9.out.1 (by rw [HVF.out.1]; exact H9.out.2.2) HRR.out.2 (fun a2 ha2 x hx => by
            by_cases e : a2 = a
            · subst e
              rw [updL_same] at hx
              rcases List.mem_append.1 hx with h | h
              · exact HR0.out a2 ha2 x h
              · simp at h
                have := HJB.out
                omega
            · rw [updL_other ls _ e] at hx
              exact HR0.out a2 ha2 x hx)
          exact ⟨j + 1, s', T, _, _, by have := HJB.out; omega, by go_num, hfin⟩
        case measure => simp only [intOf]; have := HJB.out; omega
    · have hz0 : decide (0 < z) = false := decide_eq_false hpos
      obtain ⟨s', r, N, hr, hN, hpp⟩ := LvI.pop HLV.out (by have := HJB.out; omega) n s (fraLQ 0) (Nat.le_refl n) S0.out.v (fun x hx a ha => by
        obtain ⟨y, e1, _, _, e4⟩ := S0.out.v.bm
        have : y = x := by have := e1.symm.trans hx; omega
        subst this
        exact e4 a ha) rfl rfl rfl
      have HRR := Lib.hid (And.intro hr hN)
      have HPP := Lib.hid hpp
      clear hr hN hpp
      have hnn : wrap64 ((n : Int) - 1) = (n : Int) - 1 := by have := HN.out; unfold wrap64; omega
      go_upto_region 18 with fail
      clear hc0
      go_wp2_with fail
      go_loopw [17] (fun v wx => wx = wr ∧ ∃ y : Nat, y ≤ n ∧ v = .int .i64 ((y : Int) - 1) ∧ ∀ b, y ≤ b → b < n → ls b = []) (fun v _ => (intOf v + 1).toNat)
      case atStart => exact ⟨rfl, n, Nat.le_refl _, by go_num, fun b h1 h2 => absurd h2 (by omega)⟩
      case round =>
      obtain ⟨rfl, y, hy, rfl, hyz⟩ := hrel
      have HYZ := Lib.hid hyz
      clear hyz
      rcases Nat.eq_zero_or_pos y with hy0 | hyp
      · subst hy0
        rw [show ((0 : Nat) : Int) - 1 = -1 from rfl]
        go_wp2_with fail
        (with_reducible refine (lvPop_any 0 _).mono ?_)
        rintro e w4 ⟨b4, rfl, hv, hbl, hb⟩
        have S4 := Lib.hid (S0.out.below hb)
        have hne : gs ≠ b4 := by have := S0.out.o.blk.lt; omega
        have hA := alone_lvpopper (most := 200) S4.out.e.e S4.out.e.l S4.out.e.i hv S4.out.e.u (xu_new ⟨uw_zero, uw_zero, uw_zero, uw_zero⟩) HRR.out.1 (by have := HRR.out.2; have := HN.out; omega) (by decide)
        rw [show ((200 : Nat) : Int) = 200 from rfl] at hA
        have HA := Lib.hid hA
        have HBL := Lib.hid (And.intro (Nat.le_trans S0.out.e.b.size hbl) (And.intro hne (v6_ty hv)))
        clear hA hv hbl hb hne
        go_wp2_with fail
        (with_reducible refine HA.out.mono ?_)
        rintro e w5 ⟨rfl, hp, hf⟩
        have hpp := HPP.out
        clear HPP
        rcases hpp with ⟨rfl, hall, hold, hv'⟩ | ⟨a, l, u, t', han, hlu, hbel, rfl, hv'⟩
        · have h5 := S4.out.alone HBL.out.1 HBL.out.2.1 HBL.out.2.2 hp hf hv'.u
          have S5 := Lib.hid (show SV w p m k g cap c hd rv n kk gs s' T ls V (j + 1) w5 from ⟨h5.1, hv'.more (Nat.le_succ j), h5.2, S0.out.r⟩)
          clear hp hf S4 S0 HA HBL h5 hv' hall hold
          go_wp2_with fail
          go_roundw
          case rel => exact ⟨j + 1, s', T, ls, V, by have := HJB.out; omega, by go_num, S5.out⟩
          case measure => simp only [intOf]; have := HJB.out; omega
        · exfalso
          have := HYZ.out a (Nat.zero_le _) han
          rw [hlu] at this
          simp at this
      obtain ⟨y1, rfl⟩ : ∃ y1, y = y1 + 1 := ⟨y - 1, by omega⟩
      rw [show ((y1 + 1 : Nat) : Int) - 1 = (y1 : Int) by omega]
      have hy0 : (0 : Int) ≤ (y1 : Int) := by omega
      have hy1 : (y1 : Int) < (n : Int) := by omega
      have HY := Lib.hid (show y1 < n by omega)
      have hn5' : n ≤ 5 := HN.out.2
      obtain ⟨va, vc, hvf, hvc, _⟩ := (S0.out.o.own y1 HY.out).form
      obtain ⟨M, hM⟩ : ∃ M, (ls y1).length = M := ⟨_, rfl⟩
      rw [hM] at hvf hvc
      have HVF := Lib.hid (And.intro hvf (And.intro hM hvc))
      have c5 := S0.out.o.cell HY.out
      rw [hvf] at c5
      clear hvf hM hvc hyp hy
      by_cases hM0 : M = 0
      · subst hM0
        go_wp2_with fail
        go_roundw
        case rel =>
          refine ⟨by first | rfl | trivial, y1, by have := HY.out; omega, by go_num, fun b h1 h2 => ?_⟩
          rcases Nat.eq_or_lt_of_le h1 with e | e
          · rw [← e]
            exact List.eq_nil_of_length_eq_zero HVF.out.2.1
          · exact HYZ.out b e h2
        case measure => simp only [intOf]; omega
      · have hMz : ((M : Int) == 0) = false := by simp; omega
        have hMy : (M == 0) = false := by simp; omega
        go_wp2_with fail
        (with_reducible refine (lvPop_any 0 _).mono ?_)
        rintro e w4 ⟨b4, rfl, hv, hbl, hb⟩
        have S4 := Lib.hid (S0.out.below hb)
        have hne : gs ≠ b4 := by have := S0.out.o.blk.lt; omega
        have hA := alone_lvpopper (most := 200) S4.out.e.e S4.out.e.l S4.out.e.i hv S4.out.e.u (xu_new ⟨uw_zero, uw_zero, uw_zero, uw_zero⟩) HRR.out.1 (by have := HRR.out.2; have := HN.out; omega) (by decide)
        rw [show ((200 : Nat) : Int) = 200 from rfl] at hA
        have HA := Lib.hid hA
        have HBL := Lib.hid (And.intro (Nat.le_trans S0.out.e.b.size hbl) (And.intro hne (v6_ty hv)))
        clear hA hv hbl hb hne
        go_wp2_with fail
        (with_reducible refine HA.out.mono ?_)
        rintro e w5 ⟨rfl, hp, hf⟩
        have hpp := HPP.out
        clear HPP
        rcases hpp with ⟨rfl, hall, hold, hv'⟩ | ⟨a, l, u, t', han, hlu, hbel, rfl, hv'⟩
        · exfalso
          have h1 := HVF.out.2.1
          rw [hall y1 HY.out] at h1
          simp at h1
          omega
        · obtain rfl : a = y1 := by
            rcases Nat.lt_trichotomy a y1 with h | h | h
            · exfalso
              have h1 := HVF.out.2.1
              rw [hbel y1 h HY.out] at h1
              simp at h1
              omega
            · exact h
            · exfalso
              have h1 := HYZ.out a h han
              rw [hlu] at h1
              simp at h1
          have hur := S0.out.r a han u (by rw [hlu]; simp)
          have h5 := S4.out.alone HBL.out.1 HBL.out.2.1 HBL.out.2.2 hp hf hv'.u
          have E5 := Lib.hid h5.1
          have O5 := Lib.hid h5.2
          have HR0 := Lib.hid S0.out.r
          have HV5 := Lib.hid hv'
          obtain ⟨M1, hM1⟩ : ∃ M1, M = M1 + 1 := ⟨M - 1, by omega⟩
          have hl1 : l.length = M1 := by have := HVF.out.2.1; rw [hlu, List.length_append] at this; simp at this; omega
          obtain ⟨g9, c9, hv9⟩ := (O5.out.own a han).at0 (by rw [HVF.out.2.1]; omega)
          rw [HVF.out.2.1, HVF.out.1] at hv9
          obtain ⟨rfl, rfl⟩ : va = some ⟨g9, 0, none⟩ ∧ vc = c9 := by simpa using hv9
          have hrow := O5.out.own a han
          rw [HVF.out.1] at hrow
          have hcell : w5.cell? ⟨g9, M1, none⟩ = some (.int .i64 u) := by
            have h := hrow
            rw [← HVF.out.2.1] at h
            rw [h.cellAt (i := M1) (by rw [HVF.out.2.1, hM1]; omega), hlu, ← hl1]
            simp
          have hini := (show OwnI w5 w.heap.size (.slice (some ⟨g9, 0, none⟩) (M1 + 1) vc) (ls a) from hM1 ▸ hrow).init
          have HOI := Lib.hid hini.2.2
          rw [hlu, List.dropLast_concat] at HOI
          have hcap := hini.2.1
          have c6 : w5.cell? ⟨gs, a, none⟩ = some (.slice (some ⟨g9, 0, none⟩) M vc) := by rw [O5.out.cell han, HVF.out.1]
          have f6 : w5.frozen? ⟨gs, a, none⟩ = false := O5.out.blk.free a
          have HLU := Lib.hid (And.intro hlu (And.intro hM1 hl1))
          rw [(wrap_small hur).2]
          clear hp hf S4 S0 HA HBL h5 hv' hrow hini hv9 hbel hlu hl1 c5
          have hMb : M ≤ 100 := by have h1 := HV5.out; have := HLU.out.2.1; have h2 := (h1.dq a han).cap; rw [updL_same] at h2; have := HK.out; have := HLU.out.2.2; omega
          have hm1 : (M : Int) - 1 = (M1 : Int) := by omega
          have hm2 : (0 : Int) ≤ (M1 : Int) := by omega
          have hm3 : (M1 : Int) < (M : Int) := by omega
          have hm4 : M1 ≤ vc := by omega
          clear hcap hM1 hur
          go_upto_region 25 with fail
          go_quiet (fail)
          have E6 := Lib.hid (E5.out.below (below_drewN _ nq))
          have O6 := Lib.hid (O5.out.below (below_drewN _ nq))
          have c7 := c6
          have f7 := f6
          change (w5.drewN nq).cell? ⟨gs, a, none⟩ = _ at c7
          change (w5.drewN nq).frozen? ⟨gs, a, none⟩ = _ at f7
          have O7 := Lib.hid (show OwnI (w5.drewN nq) w.heap.size (.slice (some ⟨g9, 0, none⟩) M1 vc) l from HOI.out.below (below_drewN _ nq))
          clear E5 O5 c6 f6 HOI hcell
          generalize w5.drewN nq = w6 at *
          go_upto_region 27 with fail
          have HM4 := Lib.hid hm4
          have c8 : w6.drew.cell? ⟨gs, a, none⟩ = some (.slice (some ⟨g9, 0, none⟩) M vc) := c7
          have f8 : w6.drew.frozen? ⟨gs, a, none⟩ = false := f7
          have E7 := Lib.hid (E6.out.below (below_drew (Below.refl _ _)))
          have O8 := Lib.hid (O6.out.below (below_drew (Below.refl _ _)))
          have O9 := Lib.hid (show OwnI w6.drew w.heap.size (.slice (some ⟨g9, 0, none⟩) M1 vc) l from O7.out.below (below_drew (Below.refl _ _)))
          clear E6 O6 O7
          go_region
          go_wp2_with fail
          go_roundw
          case rel =>
            have hfin := SV.put (T' := updT T a t') (B' := j + 1) (kk := kk) (w' := w6.drew) E7.out O8.out HY.out (v' := .slice (some ⟨g9, 0, none⟩) M1 vc) (l' := l) (Fr.refl _ _) O9.out (by rw [HVF.out.1]; exact .inl rfl) (HV5.out.more (Nat.le_succ j)) (fun a2 ha2 x hx => by
              by_cases e : a2 = a
              · subst e
                rw [updL_same] at hx
                exact HR0.out a2 ha2 x (by rw [HLU.out.1]; simp [hx])
              · rw [updL_other ls _ e] at hx
                exact HR0.out a2 ha2 x hx)
            exact ⟨j + 1, s', _, _, _, by have := HJB.out; omega, by go_num, hfin⟩
          case measure => simp only [intOf]; have := HJB.out; omega
end Go.Proofs.Ytmoblcfjplolgaa
