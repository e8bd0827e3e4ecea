/-
  Contract of the reference's Check.
-/
import Derived.Test.YtpmdmeolehabjaaCfChkB
namespace Go.Proofs.Ytpmdmeolehabjaa
open Go Go.RowKit

set_option maxRecDepth 20000 in
set_option maxHeartbeats 4000000 in
theorem rcheck_any {w : World} {B : Nat} {c : Cfg} {pa : Option Addr} {pn : Nat} {sa : Option Addr} {sn : Nat} (h : Lists w B c pa pn sa sn) (pc sc : Nat) :
    Calls Try.prog 24 #[cv c pa pn pc sa sn sc] w (Returns (chk c) w) := by
  have hmax := h.pr.2.1
  have hmax2 := h.su.2.1
  unfold maxLen at hmax hmax2
  have HN := Lib.hid h.pr.1
  have HM := Lib.hid h.su.1
  obtain ⟨R, hR⟩ : ∃ R, chk c = R := ⟨_, rfl⟩
  rw [hR]
  unfold chk at hR
  have H1 := Lib.hid (h.alloc (.cells (cc c pa pn pc sa sn sc) 25))
  have X1 := Lib.hid (Blk.made w 25 (cc c pa pn pc sa sn sc))
  have B1 := Lib.hid (below_one w (.cells (cc c pa pn pc sa sn sc) 25))
  have hs1 : w.heap.size < (w.alloc (.cells (cc c pa pn pc sa sn sc) 25)).heap.size := by simp
  have HR := Lib.hid hR
  clear hR h
  go_enter Try.func24, Try.ntmps24
  go_wp2_with fail
  generalize w.alloc (.cells (cc c pa pn pc sa sn sc) 25) = W0 at *
  refine (rnumbers_any c _ pn _ _ sn _ _).mono ?_
  rintro e W1 ⟨rfl, b1⟩
  have H2 := Lib.hid (H1.out.below b1)
  have X2 := Lib.hid (X1.out.below b1)
  have B2 := Lib.hid (B1.out.trans (b1.mono B1.out.size))
  have hs2 : w.heap.size < W1.heap.size := Nat.lt_of_lt_of_le hs1 b1.size
  clear b1 H1 X1 B1 hs1
  cases hn : numsB c with
  | false =>
    have hr : R = 1 := by
      have := HR.out
      rw [hn] at this
      exact this.symm
    subst hr
    clear hn
    go_wp2
    go_ret
    exact ⟨rfl, B2.out⟩
  | true =>
    have hr := HR.out
    rw [hn, if_pos rfl] at hr
    unfold progsR at hr
    rw [HN.out] at hr
    have HR2 := Lib.hid hr
    obtain ⟨_, ⟨hl, hl'⟩, _⟩ := numsB_iff.1 hn
    obtain ⟨e0, e1, e2, e3, e4, e5, e6, e7, e8, e9, e10⟩ := eleven X2.out
    clear hn hr e0 e1 e2 e3 e4 e5 e6 e7 e8 e10
    go_wp2_with fail
    refine (rin_any _ _ _ _).mono ?_
    rintro e w' ⟨rfl, rfl⟩
    cases hb : inB pn 1 32 with
    | false =>
      have hr : R = 2 := by
        have := HR2.out
        rw [hb] at this
        simpa using this.symm
      subst hr
      clear hb
      go_wp2
      go_ret
      exact ⟨rfl, B2.out⟩
    | true =>
      have hr : R = if chkPs pn c.le c.pr = 0 then subsR c else chkPs pn c.le c.pr := by
        have := HR2.out
        rw [hb] at this
        simpa using this.symm
      obtain ⟨hp1, hp32⟩ := inB_iff.1 hb
      have HR3 := Lib.hid hr
      obtain ⟨Q, hQ⟩ : ∃ Q, chkPs pn c.le c.pr = Q := ⟨_, rfl⟩
      have HQ := Lib.hid hQ
      clear hb hr hQ e9
      go_wp2_with fail
      go_loopw [3, 4] (fun i _ wr => ProgR W1 pn c.le Q c.pr i wr) (fun i _ _ => pn - (intOf i).toNat)
      case atStart => exact ⟨0, by omega, rfl, HQ.out.symm, Below.refl _ _⟩
      case round =>
        obtain ⟨k, hk, rfl, hrk, hb⟩ := hrel
        rw [HN.out] at hk
        have HRK := Lib.hid hrk
        have HBk := Lib.hid hb
        have X3 := Lib.hid (X2.out.below HBk.out)
        have c9 := (eleven X3.out).c9
        clear hrk hb
        by_cases hlt : k < pn
        · obtain ⟨x, b, m, cp, p, rfl, hp, hxB, hx, hc0, ht⟩ := (H2.out.below HBk.out).pr.at_ hlt
          have hstep := chkPs_drop (n := pn) (le := c.le) hp
          have hpl := ht.1
          have hpm := ht.2.1
          unfold maxLen at hpm
          rw [hpl] at hstep
          have HT := Lib.hid ht
          have HPL := Lib.hid hpl
          clear hp ht hpl
          by_cases hm : 32 < m
          · rw [if_pos hm] at hstep
            have hr2 : R = 2 := by
              have h1 := HRK.out.trans hstep
              have h2 := HR3.out
              rw [HQ.out, h1] at h2
              simpa using h2
            subst hr2
            clear hstep
            go_wp2
            go_ret
            exact ⟨rfl, B2.out.trans (HBk.out.mono B2.out.size)⟩
          · rw [if_neg hm] at hstep
            have HST := Lib.hid hstep
            clear hstep
            obtain ⟨t, htt⟩ : ∃ t, p.all (insB pn c.le) = t := ⟨_, rfl⟩
            have HTT := Lib.hid htt
            clear htt
            go_wp2_with fail
            go_loopw [4] (fun j wq => CodeR wr pn c.le t p j wq) (fun j _ => m - (intOf j).toNat)
            case atStart => exact ⟨0, by omega, rfl, HTT.out.symm, Below.refl _ _⟩
            case round =>
              obtain ⟨j, hj, rfl, hrj, hb⟩ := hrel
              rw [HPL.out] at hj
              have HRJ := Lib.hid hrj
              have HBj := Lib.hid hb
              have c9' := (eleven (X3.out.below HBj.out)).c9
              have hc0' := (HBj.out.cell (by rw [block_add]; exact hx)).trans hc0
              clear hrj hb
              by_cases hlj : j < m
              · obtain ⟨y, o, u, v, rfl, he, hyB, hy, c0, c1, c2⟩ := (HT.out.below HBj.out).at_ hlj
                have HST2 := Lib.hid (all_drop (p := insB pn c.le) he)
                have X4 := Lib.hid (X3.out.below HBj.out)
                obtain ⟨e0, e1, e2, e3, e4, e5, e6, e7, e8, _, e10⟩ := eleven X4.out
                have i0 : (0 : Int) ≤ (k : Int) := by omega
                have i1 : (k : Int) < (pn : Int) := by omega
                have i2 : (0 : Int) ≤ (j : Int) := by omega
                have i3 : (j : Int) < (m : Int) := by omega
                clear he
                go_wp2_with fail
                go_still_tail 9, (by kernel_rfl)
                change wpList _ _ _ _ _ wr.drew
                have HB2 := Lib.hid (below_drew HBj.out)
                generalize wr.drew = w4 at *
                go_wp2_with fail
                refine (rinstr_any o u v c _ pn _ _ _ _ hl hl' (by omega) _).mono ?_
                rintro e wv ⟨rfl, hbv⟩
                have HB3 := Lib.hid (HB2.out.trans (hbv.mono HB2.out.size))
                clear hbv HB2 c0 c1 c2 e0 e1 e2 e3 e4 e5 e6 e7 e8 c9' e10 hc0'
                cases hv : insB pn c.le (o, u, v) with
                | false =>
                  have hr : t = false := by rw [HRJ.out, HST2.out, hv, Bool.false_and]
                  have hr2 : R = 1 := by
                    have h0 := HST.out
                    rw [HTT.out, hr] at h0
                    have h1 := HRK.out.trans h0
                    have h2 := HR3.out
                    rw [HQ.out, h1] at h2
                    simpa using h2
                  subst hr2
                  clear hv
                  go_wp2
                  go_ret
                  exact ⟨rfl, B2.out.trans ((HBk.out.trans (HB3.out.mono HBk.out.size)).mono B2.out.size)⟩
                | true =>
                  have hr : t = (p.drop (j + 1)).all (insB pn c.le) := by rw [HRJ.out, HST2.out, hv, Bool.true_and]
                  have HRJ2 := Lib.hid hr
                  clear hv hr
                  go_wp2_with fail
                  go_roundw
                  case rel => exact ⟨j + 1, by rw [HPL.out]; omega, by go_num, HRJ2.out, HB3.out⟩
                  case measure => simp [intOf]; omega
              · obtain rfl : j = m := by omega
                have hr : t = true := by
                  rw [HRJ.out, ← HPL.out, List.drop_length]
                  rfl
                have hr2 : Q = chkPs pn c.le (c.pr.drop (k + 1)) := by
                  have := HST.out
                  rw [HTT.out, hr, if_pos rfl] at this
                  exact HRK.out.trans this
                have HR2 := Lib.hid hr2
                clear hr hr2
                go_wp2_with fail
                go_roundw
                case rel => exact ⟨k + 1, by rw [HN.out]; omega, by go_num, HR2.out, HBk.out.trans (HBj.out.mono HBk.out.size)⟩
                case measure => simp [intOf]; omega
        · obtain rfl : k = pn := by omega
          have hQ0 : Q = 0 := by
            rw [HRK.out, ← HN.out, List.drop_length]
            rfl
          have hr : R = if 64 < sn then 2 else chkSs k c.le c.su := by
            have h2 := HR3.out
            rw [HQ.out, hQ0, if_pos rfl] at h2
            unfold subsR at h2
            rw [HM.out, HN.out] at h2
            exact h2
          have c10 := (eleven X3.out).c10
          clear hQ0
          by_cases hm : 64 < sn
          · rw [if_pos hm] at hr
            subst hr
            go_wp2
            go_ret
            exact ⟨rfl, B2.out.trans (HBk.out.mono B2.out.size)⟩
          · rw [if_neg hm] at hr
            have HR4 := Lib.hid hr
            clear hr
            go_wp2_with fail
            clear c9
            go_loopw [5] (fun i wq => SubR wr k c.le R c.su i wq) (fun i _ => sn - (intOf i).toNat)
            case atStart => exact ⟨0, by omega, rfl, HR4.out, Below.refl _ _⟩
            case round =>
              obtain ⟨j, hj, rfl, hrj, hb⟩ := hrel
              rw [HM.out] at hj
              have HRJ := Lib.hid hrj
              have HBj := Lib.hid hb
              have HBB := Lib.hid (B2.out.trans ((HBk.out.trans (HBj.out.mono HBk.out.size)).mono B2.out.size))
              have X4 := Lib.hid (X3.out.below HBj.out)
              have c10' := (eleven X4.out).c10
              clear hrj hb c10
              by_cases hlt : j < sn
              · obtain ⟨x, o, u, v, rfl, he, hxB, hx, c0, c1, c2⟩ := ((H2.out.below HBk.out).below HBj.out).su.at_ hlt
                have HST := Lib.hid (chkSs_drop (n := k) (le := c.le) he)
                have HB2 := Lib.hid (HBj.out.alloc HBj.out.size (.cells #[.int .i64 o, .int .i64 u, .int .i64 v] 47))
                have HBB2 := Lib.hid (HBB.out.alloc HBB.out.size (.cells #[.int .i64 o, .int .i64 u, .int .i64 v] 47))
                obtain ⟨e0, e1, e2, e3, e4, e5, e6, e7, e8, e9, e10⟩ := eleven (X4.out.alloc (.cells #[.int .i64 o, .int .i64 u, .int .i64 v] 47))
                clear he e0 e2 e3 e4 e5 e6 e7 e8 e10
                go_wp2_with fail
                refine (rin_any _ _ _ _).mono ?_
                rintro e w' ⟨rfl, rfl⟩
                cases ho : inB o 0 (k - 1) with
                | false =>
                  have hr2 : R = 3 := by
                    have := HRJ.out.trans HST.out
                    rw [ho] at this
                    exact this
                  subst hr2
                  clear ho
                  go_wp2
                  go_ret
                  exact ⟨rfl, HBB2.out⟩
                | true =>
                  have HO := Lib.hid ho
                  clear ho
                  go_wp2_with fail
                  refine (rin_any _ _ _ _).mono ?_
                  rintro e w' ⟨rfl, rfl⟩
                  cases hu : inB u 0 (c.le - 1) with
                  | false =>
                    have hr2 : R = 1 := by
                      have := HRJ.out.trans HST.out
                      unfold subOk at this
                      rw [HO.out, hu] at this
                      exact this
                    subst hr2
                    clear hu
                    go_wp2
                    go_ret
                    exact ⟨rfl, HBB2.out⟩
                  | true =>
                    have HU := Lib.hid hu
                    clear hu
                    go_wp2_with fail
                    refine (rin_any _ _ _ _).mono ?_
                    rintro e w' ⟨rfl, rfl⟩
                    cases hv : inB v 0 16777215 with
                    | false =>
                      have hr2 : R = 1 := by
                        have := HRJ.out.trans HST.out
                        unfold subOk at this
                        rw [HO.out, HU.out, hv] at this
                        exact this
                      subst hr2
                      clear hv
                      go_wp2
                      go_ret
                      exact ⟨rfl, HBB2.out⟩
                    | true =>
                      have hr2 : R = chkSs k c.le (c.su.drop (j + 1)) := by
                        have := HRJ.out.trans HST.out
                        unfold subOk at this
                        rw [HO.out, HU.out, hv] at this
                        exact this
                      have HR2 := Lib.hid hr2
                      clear hr2 hv
                      go_wp2_with fail
                      go_roundw
                      case rel => exact ⟨j + 1, by rw [HM.out]; omega, by go_num, HR2.out, HB2.out⟩
                      case measure => simp [intOf]; omega
              · obtain rfl : j = sn := by omega
                have hr : R = 0 := by
                  rw [HRJ.out, ← HM.out, List.drop_length]
                  rfl
                subst hr
                go_wp2
                go_ret
                exact ⟨rfl, HBB.out⟩
end Go.Proofs.Ytpmdmeolehabjaa
