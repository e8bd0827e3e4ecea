/-
  The walk of the statement InjectorHeaps: it returns true. (Written by wip/gen_l16h.py.)
-/
import Derived.Test.YtanbjdlaolgepaaMgBY
import Derived.Test.YtanbjdlaolgepaaMgBZ
import Derived.LoopTactic
import Derived.OwnWalk
import Derived.Deep.Cut
import Derived.Deep.CutRange
namespace Go.Proofs.Ytanbjdlaolgepaa
open Go Go.RowKit Go.Shelf
set_option linter.unusedSimpArgs false
set_option linter.unusedVariables false

/-- What the loop keeps. -/
def HeR (w : World) (p m k g cap : Nat) (c : Cfg) (hd : List Value) (rv : Value) (z : Nat) (pa : Option Addr) (pn pc : Nat) (sa : Option Addr) (sn sc : Nat) (L : Nat) (v cnt i : Value) (wr : World) : Prop :=
  ∃ (j : Nat) (h : List Int) (A : Nat) (s : St) (ev : Value) (es : List Ev), j ≤ L ∧ i = .int .i64 j ∧ cnt = .int .i64 A ∧ A ≤ j ∧ es.length ≤ j ∧ EV w p m k g cap c hd rv ev es s wr ∧ InjH c h A s ∧ HV wr g v h ∧ Blk wr z 26 (cc c pa pn pc sa sn sc)

set_option maxRecDepth 100000 in
set_option maxHeartbeats 16000000 in
theorem heaps16_law {w : World} {la : Option Addr} {L : Nat} {lz : List Int} (n0 : Int) (lc : Nat) (hn0 : 0 ≤ n0 ∧ n0 ≤ 255) (hl : InH w la L lz) :
    Calls Try.prog 3 #[.int .u8 n0, .slice la L lc] w fun e w' => e = .returned (.bool true) ∧ Below w.heap.size w w' := by
  have hml := hl.2.1
  unfold maxLen at hml
  have HL := Lib.hid hl
  clear hl
  by_cases h100 : 100 < L
  · go_enter Try.func3, Try.ntmps3
    go_wp2
    go_ret
    exact ⟨rfl, Below.refl _ _⟩
  have h101 : decide (100 < (L : Int)) = false := decide_eq_false (by omega)
  obtain ⟨n, hn, hn2⟩ : ∃ n : Nat, 1 + n0 % 12 = (n : Int) ∧ (1 ≤ n ∧ n ≤ 12) := ⟨(1 + n0 % 12).toNat, by omega, by omega⟩
  have HN := Lib.hid hn2
  have HT := Lib.hid (room_any n w)
  go_enter Try.func3, Try.ntmps3
  go_wp2_with fail
  (with_reducible refine HT.out.mono ?_)
  rintro e w1 ⟨pa, pn, pc, sa, sn, sc, rfl, hl, hb1⟩
  have hck : chk (roomC n) = 0 := room_chk ⟨HN.out.1, by have := HN.out.2; omega⟩
  have hHE : (roomC n).he = n := room_he n
  obtain ⟨c, hcc⟩ : ∃ c, roomC n = c := ⟨_, rfl⟩
  rw [hcc] at hl hck hHE ⊢
  have HCK := Lib.hid hck
  have HHE := Lib.hid hHE
  obtain ⟨z, hz⟩ : ∃ z, w1.heap.size = z := ⟨_, rfl⟩
  have hbz := below_one w1 (.cells (cc c pa pn pc sa sn sc) 26)
  have Z1 := Lib.hid (show Blk (w1.alloc (.cells (cc c pa pn pc sa sn sc) 26)) z 26 (cc c pa pn pc sa sn sc) from hz ▸ Blk.made w1 _ _)
  have H1 := Lib.hid (hl.alloc (.cells (cc c pa pn pc sa sn sc) 26))
  have B1 := Lib.hid (hb1.trans (hbz.mono hb1.size))
  clear hl hb1 HT hck hcc hn hn2 hHE hbz
  go_upto_region 4 with fail
  generalize w1.alloc (.cells (cc c pa pn pc sa sn sc) 26) = W1 at *
  clear hz
  obtain ⟨x0, x1, x2, x3, x4, x5, x6, x7, x8, x9, x10⟩ := eleven Z1.out
  go_wp2_with fail
  (with_reducible refine (enew_any H1.out _ _ HCK.out).mono ?_)
  rintro e w2 ⟨p, m, k, g, hd, rv, rfl, hE⟩
  have E2 := Lib.hid (show EV w p m k g _ c hd rv (.slice none 0 0) [] _ w2 from ⟨hE.e, OwnE.nil _ _, hE.l, hE.i, hE.u, B1.out.trans (hE.b.mono B1.out.size), by have := hE.lo; have := B1.out.size; omega⟩)
  have Z2 := Lib.hid (Z1.out.below hE.b)
  clear hE B1 H1 HCK Z1 x0 x1 x2 x3 x4 x5 x6 x7 x8 x9 x10
  go_wp2_with fail
  (with_reducible refine (awake16_any _).mono ?_)
  rintro e w3 ⟨rfl, hb⟩
  have E3 := Lib.hid (E2.out.below hb)
  have Z3 := Lib.hid (Z2.out.below hb)
  have e20 := E3.out.e.at20
  clear hb E2 Z2
  have HNI := Lib.hid (new_inj E3.out.i)
  generalize (rCells c).toNat = cap at *
  generalize St.new cap = s0 at *
  go_wp2_with fail
  clear e20
  go_loopw [8, 9, 10] (fun v cnt i wr => HeR w p m k g cap c hd rv z pa pn pc sa sn sc L v cnt i wr) (fun _ _ i _ => L - (intOf i).toNat)
  case atStart => exact ⟨0, [], 0, s0, _, [], by omega, rfl, rfl, Nat.le_refl _, Nat.le_refl _, E3.out, HNI.out, .inl ⟨rfl, rfl⟩, Z3.out⟩
  case round =>
    clear E3 HNI Z3
    obtain ⟨j, h, A, s, ev, es, hj, rfl, rfl, hA, hes, hE, hJ, hV, hZ⟩ := hrel
    have E0 := Lib.hid hE
    have J0 := Lib.hid hJ
    have Vh0 := Lib.hid hV
    have Z0 := Lib.hid hZ
    have HAE := Lib.hid (And.intro hA hes)
    clear hE hJ hV hZ hA hes
    by_cases hlt : j < L
    case neg =>
      obtain rfl : j = L := by omega
      go_wp2
      go_ret
      exact ⟨rfl, E0.out.b⟩
    obtain ⟨ax, rfl, hx0, hc0, hzr⟩ := (HL.out.below E0.out.b).2.2 j hlt
    obtain ⟨Q, hQ⟩ : ∃ Q : Nat, lz.getD j 0 = (Q : Int) := ⟨(lz.getD j 0).toNat, by omega⟩
    rw [hQ] at hc0 hzr
    have HQ := Lib.hid (And.intro hQ hzr)
    have hQ16 : (Q : Int) ≤ 65535 := hzr.2
    clear hQ hx0 hzr
    have hj0 : (0 : Int) ≤ (j : Int) := by omega
    have hj1 : (j : Int) < (L : Int) := by omega
    have HJB := Lib.hid (show j < L ∧ j < 100 by omega)
    have hjb : (j : Int) < 100 := by omega
    obtain ⟨M, hM⟩ : ∃ M, h.length = M := ⟨_, rfl⟩
    obtain ⟨hva, hvc, hvf⟩ := Vh0.out.form
    rw [hM] at hvf
    subst hvf
    have HMM := Lib.hid hM
    have hMn : M ≤ n := by have := J0.out.le; rw [HHE.out] at this; omega
    have hAb : (A : Int) < 100 := by have := HAE.out; omega
    have hMb : (M : Int) ≤ 12 := by have := HN.out; omega
    clear hM
    obtain ⟨D, hD, hD15⟩ : ∃ D : Nat, (Q : Int) % 16 = (D : Int) ∧ D ≤ 15 := ⟨Q % 16, by omega, by omega⟩
    have HD := Lib.hid (And.intro hD hD15)
    have HC0 := Lib.hid hc0
    clear hD hD15
    by_cases hodd : Q % 2 = 1
    · have ho1 : (Q : Int).tmod 2 = 1 := by rw [Int.tmod_eq_emod_of_nonneg (by omega)]; omega
      have ho2 : (Q : Int) % 2 = 1 := by omega
      clear hodd
      go_upto_region 13 with fail
      clear ho1 ho2
      go_wp2_with fail
      rw [HD.out.1]
      (with_reducible refine (inserter_new (D : Int) (j : Int) _).mono ?_)
      rintro e w4 ⟨b4, rfl, hv, hbl, hb⟩
      have E4 := Lib.hid (E0.out.below hb)
      have Vh4 := Lib.hid (Vh0.out.below hb)
      have Z4 := Lib.hid (Z0.out.below hb)
      have LB4 := Lib.hid hv
      have HBL := Lib.hid (Nat.le_trans E0.out.b.size hbl)
      have HNZ := Lib.hid (E4.out.nin hv.blk Z4.out (by decide) (by decide) (.inl (by decide)) (by decide) (by decide))
      clear hv hbl hb E0 Vh0 Z0
      by_cases hfull : M = n
      · subst hfull
        have hMM : M = M := rfl
        obtain ⟨hr, hj5⟩ := ins_full (es := es) E4.out.i J0.out (D : Int) (j : Int) (by rw [HHE.out, HMM.out]; omega)
        have J5 := Lib.hid hj5
        clear hj5
        have hmc : ((M : Int) == (M : Int)) = true := by simp
        have hmd : (M == M) = true := by simp
        have hA := alone_inserter (most := 200) E4.out.i E4.out.e E4.out.l LB4.out E4.out.v E4.out.b.size (by have := HAE.out; have := HJB.out; omega) E4.out.u (insOk_new 10 D j) hr (by omega) (by decide)
        rw [show ((200 : Nat) : Int) = 200 from rfl] at hA
        have HA := Lib.hid hA
        clear hA hc0
        go_wp2_with fail
        (with_reducible refine HA.out.mono ?_)
        rintro e w5 ⟨ev5, rfl, hp, hov, hat, hf⟩
        have E5 := Lib.hid (E4.out.done HBL.out hp hov hf J5.out.m.u)
        have Vh5 := Lib.hid (Vh4.out.keep E4.out LB4.out.blk hf (by decide))
        have Z5 := Lib.hid (Z4.out.of_same (hf.block z Z4.out.lt HNZ.out))
        have z5 : w5.cell? ⟨z, 5, none⟩ = some (.int .i64 M) := by rw [← HHE.out]; exact Z5.out.at_ 5
        clear hp hov hat hf HA E4 Vh4 Z4 LB4 HNZ HBL
        go_upto_region 26 with fail
        clear z5
        obtain ⟨x0, x1, x2, x3, x4, x5, x6, x7, x8, x9, x10⟩ := eleven Z5.out
        go_wp2_with fail
        (with_reducible refine (slots_any E5.out.e J5.out E5.out.i pa pn pc sa sn sc).mono ?_)
        rintro e wS ⟨vS, rfl, hoS, hbS⟩
        have ES := Lib.hid (E5.out.below hbS)
        have ZS := Lib.hid (Z5.out.below hbS)
        have VhS := Lib.hid (Vh5.out.below hbS)
        have OS := Lib.hid hoS
        clear hoS hbS x0 x1 x2 x3 x4 x5 x6 x7 x8 x9 x10
        go_wp2_with fail
        (with_reducible refine (wsamev_any OS.out.wv VhS.out.wv).mono ?_)
        rintro e wT ⟨rfl, hbT⟩
        have ET := Lib.hid (ES.out.below hbT)
        have ZT := Lib.hid (ZS.out.below hbT)
        have VhT := Lib.hid (VhS.out.below hbT)
        clear hbT OS
        go_wp2_with fail
        go_roundw
        case rel => exact ⟨j + 1, h, A, _, ev5, _, by have := HJB.out; omega, by go_num, rfl, by have := HAE.out; omega, by have := HAE.out; simp; omega, ET.out, J5.out, VhT.out, ZT.out⟩
        case measure => simp only [intOf]; have := HJB.out; omega
      · have hk : Keyed (D : Int) (A : Int) (j : Int) := by have := HD.out.2; have := HJB.out; exact ⟨by omega, by omega, by omega⟩
        have HK := Lib.hid hk
        obtain ⟨s5, N5, hr, hN5, hj5⟩ := ins_run (es := es) E4.out.i J0.out (D : Int) (j : Int) hk (by rw [HHE.out, HMM.out]; omega)
        have J5 := Lib.hid hj5
        clear hj5 hk
        have hmc : ((M : Int) == (n : Int)) = false := by simp; omega
        have hmd : (M == n) = false := by simp; omega
        have hA := alone_inserter (most := 200) E4.out.i E4.out.e E4.out.l LB4.out E4.out.v E4.out.b.size (by have := HAE.out; have := HJB.out; omega) E4.out.u (insOk_new 10 D j) hr (by omega) (by decide)
        rw [show ((200 : Nat) : Int) = 200 from rfl] at hA
        have HA := Lib.hid hA
        clear hA hc0
        go_wp2_with fail
        (with_reducible refine HA.out.mono ?_)
        rintro e w5 ⟨ev5, rfl, hp, hov, hat, hf⟩
        have E5 := Lib.hid (E4.out.done HBL.out hp hov hf J5.out.m.u)
        have Vh5 := Lib.hid (Vh4.out.keep E4.out LB4.out.blk hf (by decide))
        have Z5 := Lib.hid (Z4.out.of_same (hf.block z Z4.out.lt HNZ.out))
        have z5 : w5.cell? ⟨z, 5, none⟩ = some (.int .i64 n) := by rw [← HHE.out]; exact Z5.out.at_ 5
        clear hp hov hat hf HA E4 Vh4 Z4 LB4 HNZ HBL
        have hc5 : w5.cell? (ax.add j) = some (.int .u16 Q) := by rw [← HQ.out.1]; exact (HL.out.below E5.out.b).cell hlt
        go_wp2_with fail
        rw [HD.out.1]
        (with_reducible refine (rpack_ok _ _ _ HK.out _).mono ?_)
        rintro e wx ⟨rfl, rfl⟩
        clear hc5
        go_wp2_with fail
        (with_reducible refine (epush_any _ Vh5.out.wv (by have := HMM.out; omega)).mono ?_)
        rintro e w6 ⟨v6, rfl, hnew⟩
        have E6 := Lib.hid (E5.out.below hnew.b)
        have Z6 := Lib.hid (Z5.out.below hnew.b)
        have Vh6 := Lib.hid (hnew.hv (g := g) E5.out.e.mem.row.lt)
        have J6 := J5
        clear hnew E5 Vh5 Z5 z5
        obtain ⟨x0, x1, x2, x3, x4, x5, x6, x7, x8, x9, x10⟩ := eleven Z6.out
        go_wp2_with fail
        (with_reducible refine (slots_any E6.out.e J6.out E6.out.i pa pn pc sa sn sc).mono ?_)
        rintro e wS ⟨vS, rfl, hoS, hbS⟩
        have ES := Lib.hid (E6.out.below hbS)
        have ZS := Lib.hid (Z6.out.below hbS)
        have VhS := Lib.hid (Vh6.out.below hbS)
        have OS := Lib.hid hoS
        clear hoS hbS x0 x1 x2 x3 x4 x5 x6 x7 x8 x9 x10
        go_wp2_with fail
        (with_reducible refine (wsamev_any OS.out.wv VhS.out.wv).mono ?_)
        rintro e wT ⟨rfl, hbT⟩
        have ET := Lib.hid (ES.out.below hbT)
        have ZT := Lib.hid (ZS.out.below hbT)
        have VhT := Lib.hid (VhS.out.below hbT)
        clear hbT OS
        go_wp2_with fail
        go_roundw
        case rel => exact ⟨j + 1, _, A + 1, _, ev5, _, by have := HJB.out; omega, by go_num, by go_num, by have := HAE.out; omega, by have := HAE.out; simp; omega, ET.out, J6.out, VhT.out, ZT.out⟩
        case measure => simp only [intOf]; have := HJB.out; omega
    · have ho1 : (Q : Int).tmod 2 = 0 := by rw [Int.tmod_eq_emod_of_nonneg (by omega)]; omega
      have ho2 : (Q : Int) % 2 = 0 := by omega
      clear hodd
      go_upto_region 20 with fail
      clear ho1 ho2
      go_wp2_with fail
      (with_reducible refine (remover_new 0 _).mono ?_)
      rintro e w4 ⟨b4, rfl, hv, hbl, hb⟩
      have E4 := Lib.hid (E0.out.below hb)
      have Vh4 := Lib.hid (Vh0.out.below hb)
      have Z4 := Lib.hid (Z0.out.below hb)
      have LB4 := Lib.hid hv
      have HBL := Lib.hid (Nat.le_trans E0.out.b.size hbl)
      have HNZ := Lib.hid (E4.out.nin hv.blk Z4.out (by decide) (by decide) (.inl (by decide)) (by decide) (by decide))
      clear hv hbl hb E0 Vh0 Z0
      by_cases hm0 : M = 0
      · subst hm0
        obtain rfl : h = [] := List.eq_nil_of_length_eq_zero HMM.out
        obtain ⟨hr, hj5⟩ := rem_none (es := es) J0.out 0
        have J5 := Lib.hid hj5
        clear hj5
        have hA := alone_remover (most := 200) E4.out.i E4.out.e E4.out.l LB4.out E4.out.v E4.out.b.size (by have := HAE.out; have := HJB.out; omega) E4.out.u (remOk_new 11 0) hr (by omega) (by decide)
        rw [show ((200 : Nat) : Int) = 200 from rfl] at hA
        have HA := Lib.hid hA
        clear hA hc0
        go_wp2_with fail
        (with_reducible refine HA.out.mono ?_)
        rintro e w5 ⟨ev5, rfl, hp, hov, hat, hf⟩
        have E5 := Lib.hid (E4.out.done HBL.out hp hov hf J5.out.m.u)
        have Vh5 := Lib.hid (Vh4.out.keep E4.out LB4.out.blk hf (by decide))
        have Z5 := Lib.hid (Z4.out.of_same (hf.block z Z4.out.lt HNZ.out))
        have z5 : w5.cell? ⟨z, 5, none⟩ = some (.int .i64 n) := by rw [← HHE.out]; exact Z5.out.at_ 5
        clear hp hov hat hf HA E4 Vh4 Z4 LB4 HNZ HBL
        go_wp2_with fail
        (with_reducible refine (epop_none Vh5.out.wv).mono ?_)
        rintro e wx ⟨rfl, rfl⟩
        have hun := runpack_any 0 (by decide) wx
        rw [show ((0 : Nat) : Int) = 0 from rfl] at hun
        have HUN := Lib.hid hun
        clear hun
        go_wp2_with fail
        (with_reducible refine HUN.out.mono ?_)
        rintro e w6 ⟨nd, rfl, rfl⟩
        have E6 := Lib.hid (E5.out.drewN nd)
        have Z6 := Lib.hid (Z5.out.below (below_drewN wx nd))
        have Vh6 := Lib.hid (show HV (wx.drewN nd) g (.slice none 0 0) [] from .inl ⟨rfl, rfl⟩)
        have J6 := J5
        clear E5 Z5 Vh5 z5 HUN
        generalize wx.drewN nd = W6 at *
        obtain ⟨x0, x1, x2, x3, x4, x5, x6, x7, x8, x9, x10⟩ := eleven Z6.out
        go_wp2_with fail
        (with_reducible refine (slots_any E6.out.e J6.out E6.out.i pa pn pc sa sn sc).mono ?_)
        rintro e wS ⟨vS, rfl, hoS, hbS⟩
        have ES := Lib.hid (E6.out.below hbS)
        have ZS := Lib.hid (Z6.out.below hbS)
        have VhS := Lib.hid (Vh6.out.below hbS)
        have OS := Lib.hid hoS
        clear hoS hbS x0 x1 x2 x3 x4 x5 x6 x7 x8 x9 x10
        go_wp2_with fail
        (with_reducible refine (wsamev_any OS.out.wv VhS.out.wv).mono ?_)
        rintro e wT ⟨rfl, hbT⟩
        have ET := Lib.hid (ES.out.below hbT)
        have ZT := Lib.hid (ZS.out.below hbT)
        have VhT := Lib.hid (VhS.out.below hbT)
        clear hbT OS
        go_wp2_with fail
        go_roundw
        case rel => exact ⟨j + 1, [], A, _, ev5, _, by have := HJB.out; omega, by go_num, rfl, by have := HAE.out; omega, by have := HAE.out; simp; omega, ET.out, J6.out, VhT.out, ZT.out⟩
        case measure => simp only [intOf]; have := HJB.out; omega
      · obtain ⟨s5, N5, hr, hN5, hj5⟩ := rem_run (es := es) E4.out.i J0.out 0 (by have := HMM.out; omega)
        have J5 := Lib.hid hj5
        have hux : uw (elt h 0) := J0.out.sl 0 (by have := HMM.out; omega) ▸ J0.out.m.u _
        obtain ⟨X, hX⟩ : ∃ X : Nat, elt h 0 = (X : Int) := ⟨(elt h 0).toNat, by have := hux.1; omega⟩
        have hX2 : X < 18446744073709551616 := by have := hux.2; omega
        rw [hX] at hr
        obtain ⟨T, hT⟩ : ∃ T : Nat, (X : Int) % 65536 = (T : Int) := ⟨X % 65536, by omega⟩
        rw [hT] at hr
        have HX := Lib.hid (And.intro hX hX2)
        have HTT := Lib.hid hT
        clear hj5 hux hX hX2 hT
        have hne : ((T : Int) != (T : Int)) = false := by simp
        have hne2 : (T != T) = false := by simp
        have hA := alone_remover (most := 200) E4.out.i E4.out.e E4.out.l LB4.out E4.out.v E4.out.b.size (by have := HAE.out; have := HJB.out; omega) E4.out.u (remOk_new 11 0) hr (by omega) (by decide)
        rw [show ((200 : Nat) : Int) = 200 from rfl] at hA
        have HA := Lib.hid hA
        clear hA hc0
        go_wp2_with fail
        (with_reducible refine HA.out.mono ?_)
        rintro e w5 ⟨ev5, rfl, hp, hov, hat, hf⟩
        have E5 := Lib.hid (E4.out.done HBL.out hp hov hf J5.out.m.u)
        have Vh5 := Lib.hid (Vh4.out.keep E4.out LB4.out.blk hf (by decide))
        have Z5 := Lib.hid (Z4.out.of_same (hf.block z Z4.out.lt HNZ.out))
        have z5 : w5.cell? ⟨z, 5, none⟩ = some (.int .i64 n) := by rw [← HHE.out]; exact Z5.out.at_ 5
        clear hp hov hat hf HA E4 Vh4 Z4 LB4 HNZ HBL
        have hpo := epop_any Vh5.out.wv (by have := HMM.out; omega) (by have := HMM.out; omega)
        rw [HX.out.1] at hpo
        have HPO := Lib.hid hpo
        clear hpo
        go_wp2_with fail
        (with_reducible refine HPO.out.mono ?_)
        rintro e w6 ⟨v6, rfl, hnew⟩
        have E6 := Lib.hid (E5.out.below hnew.b)
        have Z6 := Lib.hid (Z5.out.below hnew.b)
        have Vh6 := Lib.hid (hnew.hv (g := g) E5.out.e.mem.row.lt)
        have hun := runpack_any X HX.out.2 w6
        rw [HTT.out] at hun
        have HUN := Lib.hid hun
        clear hnew E5 Vh5 Z5 z5 hun HPO
        go_wp2_with fail
        (with_reducible refine HUN.out.mono ?_)
        rintro e w7 ⟨nd, rfl, rfl⟩
        have E7 := Lib.hid (E6.out.drewN nd)
        have Z7 := Lib.hid (Z6.out.below (below_drewN w6 nd))
        have Vh7 := Lib.hid (Vh6.out.below (below_drewN w6 nd))
        have J7 := J5
        clear E6 Z6 Vh6 HUN
        generalize w6.drewN nd = W7 at *
        obtain ⟨x0, x1, x2, x3, x4, x5, x6, x7, x8, x9, x10⟩ := eleven Z7.out
        go_wp2_with fail
        (with_reducible refine (slots_any E7.out.e J7.out E7.out.i pa pn pc sa sn sc).mono ?_)
        rintro e wS ⟨vS, rfl, hoS, hbS⟩
        have ES := Lib.hid (E7.out.below hbS)
        have ZS := Lib.hid (Z7.out.below hbS)
        have VhS := Lib.hid (Vh7.out.below hbS)
        have OS := Lib.hid hoS
        clear hoS hbS x0 x1 x2 x3 x4 x5 x6 x7 x8 x9 x10
        go_wp2_with fail
        (with_reducible refine (wsamev_any OS.out.wv VhS.out.wv).mono ?_)
        rintro e wT ⟨rfl, hbT⟩
        have ET := Lib.hid (ES.out.below hbT)
        have ZT := Lib.hid (ZS.out.below hbT)
        have VhT := Lib.hid (VhS.out.below hbT)
        clear hbT OS
        go_wp2_with fail
        go_roundw
        case rel => exact ⟨j + 1, _, A, _, ev5, _, by have := HJB.out; omega, by go_num, rfl, by have := HAE.out; omega, by have := HAE.out; simp; omega, ET.out, J7.out, VhT.out, ZT.out⟩
        case measure => simp only [intOf]; have := HJB.out; omega
end Go.Proofs.Ytanbjdlaolgepaa
