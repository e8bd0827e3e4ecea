/-
  Contract of the reference's Equal. (Written by wip/gen_cfreq.py.)
-/
import Derived.Test.YthiiidkkdlmneaaEqA
namespace Go.Proofs.Ythiiidkkdlmneaa
open Go Go.RowKit
set_option linter.unusedSimpArgs false

theorem bne_of {x y : Int} (h : x ≠ y) : (x != y) = true := by simpa using h
theorem bne_no {x y : Int} (h : x = y) : (x != y) = false := by simpa using h

/-- The first number that differs, if there is one. -/
theorem first_ne (c d : Cfg) : ((c.wo != d.wo) = false ∧ (c.le != d.le) = false ∧ (c.cl != d.cl) = false ∧ (c.ta != d.ta) = false ∧ (c.de != d.de) = false ∧ (c.he != d.he) = false ∧ (c.ba != d.ba) = false ∧ (c.ag != d.ag) = false ∧ (c.pa != d.pa) = false) ∨ ((((c.wo != d.wo) = true) ∨ ((c.wo != d.wo) = false ∧ (c.le != d.le) = true) ∨ ((c.wo != d.wo) = false ∧ (c.le != d.le) = false ∧ (c.cl != d.cl) = true) ∨ ((c.wo != d.wo) = false ∧ (c.le != d.le) = false ∧ (c.cl != d.cl) = false ∧ (c.ta != d.ta) = true) ∨ ((c.wo != d.wo) = false ∧ (c.le != d.le) = false ∧ (c.cl != d.cl) = false ∧ (c.ta != d.ta) = false ∧ (c.de != d.de) = true) ∨ ((c.wo != d.wo) = false ∧ (c.le != d.le) = false ∧ (c.cl != d.cl) = false ∧ (c.ta != d.ta) = false ∧ (c.de != d.de) = false ∧ (c.he != d.he) = true) ∨ ((c.wo != d.wo) = false ∧ (c.le != d.le) = false ∧ (c.cl != d.cl) = false ∧ (c.ta != d.ta) = false ∧ (c.de != d.de) = false ∧ (c.he != d.he) = false ∧ (c.ba != d.ba) = true) ∨ ((c.wo != d.wo) = false ∧ (c.le != d.le) = false ∧ (c.cl != d.cl) = false ∧ (c.ta != d.ta) = false ∧ (c.de != d.de) = false ∧ (c.he != d.he) = false ∧ (c.ba != d.ba) = false ∧ (c.ag != d.ag) = true) ∨ ((c.wo != d.wo) = false ∧ (c.le != d.le) = false ∧ (c.cl != d.cl) = false ∧ (c.ta != d.ta) = false ∧ (c.de != d.de) = false ∧ (c.he != d.he) = false ∧ (c.ba != d.ba) = false ∧ (c.ag != d.ag) = false ∧ (c.pa != d.pa) = true)) ∧ c ≠ d) := by
  by_cases h0 : c.wo = d.wo
  case neg =>
    exact .inr ⟨.inl (bne_of h0), fun e => h0 (by rw [e])⟩
  by_cases h1 : c.le = d.le
  case neg =>
    exact .inr ⟨.inr (.inl (⟨bne_no h0, bne_of h1⟩)), fun e => h1 (by rw [e])⟩
  by_cases h2 : c.cl = d.cl
  case neg =>
    exact .inr ⟨.inr (.inr (.inl (⟨bne_no h0, bne_no h1, bne_of h2⟩))), fun e => h2 (by rw [e])⟩
  by_cases h3 : c.ta = d.ta
  case neg =>
    exact .inr ⟨.inr (.inr (.inr (.inl (⟨bne_no h0, bne_no h1, bne_no h2, bne_of h3⟩)))), fun e => h3 (by rw [e])⟩
  by_cases h4 : c.de = d.de
  case neg =>
    exact .inr ⟨.inr (.inr (.inr (.inr (.inl (⟨bne_no h0, bne_no h1, bne_no h2, bne_no h3, bne_of h4⟩))))), fun e => h4 (by rw [e])⟩
  by_cases h5 : c.he = d.he
  case neg =>
    exact .inr ⟨.inr (.inr (.inr (.inr (.inr (.inl (⟨bne_no h0, bne_no h1, bne_no h2, bne_no h3, bne_no h4, bne_of h5⟩)))))), fun e => h5 (by rw [e])⟩
  by_cases h6 : c.ba = d.ba
  case neg =>
    exact .inr ⟨.inr (.inr (.inr (.inr (.inr (.inr (.inl (⟨bne_no h0, bne_no h1, bne_no h2, bne_no h3, bne_no h4, bne_no h5, bne_of h6⟩))))))), fun e => h6 (by rw [e])⟩
  by_cases h7 : c.ag = d.ag
  case neg =>
    exact .inr ⟨.inr (.inr (.inr (.inr (.inr (.inr (.inr (.inl (⟨bne_no h0, bne_no h1, bne_no h2, bne_no h3, bne_no h4, bne_no h5, bne_no h6, bne_of h7⟩)))))))), fun e => h7 (by rw [e])⟩
  by_cases h8 : c.pa = d.pa
  case neg =>
    exact .inr ⟨.inr (.inr (.inr (.inr (.inr (.inr (.inr (.inr (⟨bne_no h0, bne_no h1, bne_no h2, bne_no h3, bne_no h4, bne_no h5, bne_no h6, bne_no h7, bne_of h8⟩)))))))), fun e => h8 (by rw [e])⟩
  exact .inl ⟨bne_no h0, bne_no h1, bne_no h2, bne_no h3, bne_no h4, bne_no h5, bne_no h6, bne_no h7, bne_no h8⟩

set_option maxRecDepth 100000 in
set_option maxHeartbeats 8000000 in
theorem requal_any {w : World} {B B' : Nat} {c d : Cfg} {pa qa : Option Addr} {pn qn : Nat} {sa ta : Option Addr} {sn tn : Nat} (h : Lists w B c pa pn sa sn) (h' : Lists w B' d qa qn ta tn) (pc sc qc tc : Nat) :
    Calls Try.prog 12 #[cv c pa pn pc sa sn sc, cv d qa qn qc ta tn tc] w (EqGives (decide (c = d)) w) := by
  have hmp := h.pr.2.1
  have hms := h.su.2.1
  have hmq := h'.pr.2.1
  have hmt := h'.su.2.1
  unfold maxLen at hmp hms hmq hmt
  have HPL := Lib.hid h.pr.1
  have HQL := Lib.hid h'.pr.1
  have HSL := Lib.hid h.su.1
  have HTL := Lib.hid h'.su.1
  obtain ⟨t, ht⟩ : ∃ t, decide (c = d) = t := ⟨_, rfl⟩
  rw [ht]
  have HTT := Lib.hid ht
  have H1 := Lib.hid ((h.alloc (.cells (cc c pa pn pc sa sn sc) 26)).alloc (.cells (cc d qa qn qc ta tn tc) 26))
  have H1' := Lib.hid ((h'.alloc (.cells (cc c pa pn pc sa sn sc) 26)).alloc (.cells (cc d qa qn qc ta tn tc) 26))
  have X1 := Lib.hid ((Blk.made w 26 (cc c pa pn pc sa sn sc)).alloc (.cells (cc d qa qn qc ta tn tc) 26))
  have hy := Blk.made (w.alloc (.cells (cc c pa pn pc sa sn sc) 26)) 26 (cc d qa qn qc ta tn tc)
  rw [show (w.alloc (.cells (cc c pa pn pc sa sn sc) 26)).heap.size = w.heap.size + 1 by simp] at hy
  have Y1 := Lib.hid hy
  have B1 := Lib.hid ((below_one w (.cells (cc c pa pn pc sa sn sc) 26)).alloc (by simp) (.cells (cc d qa qn qc ta tn tc) 26))
  clear hy h h' ht
  rcases first_ne c d with ⟨h0, h1, h2, h3, h4, h5, h6, h7, h8⟩ | ⟨hne, hcd⟩
  · have hcd : c = d ↔ c.pr = d.pr ∧ c.su = d.su := by
      refine cfg_ext.trans ⟨fun h => h.2, fun h => ⟨?_, h⟩⟩
      simp only [bne_eq_false_iff_eq] at h0 h1 h2 h3 h4 h5 h6 h7 h8
      exact ⟨h0, h1, h2, h3, h4, h5, h6, h7, h8⟩
    have HCD := Lib.hid hcd
    clear hcd
    by_cases hpq : pn = qn
    case neg =>
      have ht : t = false := by
        rw [← HTT.out]
        refine decide_eq_false (fun e => hpq ?_)
        rw [← HPL.out, ← HQL.out, e]
      subst ht
      have hb : ((pn : Int) != (qn : Int)) = true := bne_of (by omega)
      clear hpq
      go_enter Try.func12, Try.ntmps12
      go_wp2
      go_ret
      exact ⟨rfl, B1.out⟩
    by_cases hst : sn = tn
    case neg =>
      subst hpq
      have ht : t = false := by
        rw [← HTT.out]
        refine decide_eq_false (fun e => hst ?_)
        rw [← HSL.out, ← HTL.out, e]
      subst ht
      have hb : ((sn : Int) != (tn : Int)) = true := bne_of (by omega)
      clear hst
      go_enter Try.func12, Try.ntmps12
      go_wp2
      go_ret
      exact ⟨rfl, B1.out⟩
    subst hpq
    subst hst
    obtain ⟨b1, hb1⟩ : ∃ b, decide (c.pr = d.pr) = b := ⟨_, rfl⟩
    obtain ⟨b2, hb2⟩ : ∃ b, decide (c.su = d.su) = b := ⟨_, rfl⟩
    have HB1 := Lib.hid hb1
    have HB2 := Lib.hid hb2
    have HTB := Lib.hid (show t = (b1 && b2) by
      rw [← HTT.out, ← hb1, ← hb2, ← Bool.decide_and]
      exact decide_eq_decide.2 HCD.out)
    clear hb1 hb2
    go_enter Try.func12, Try.ntmps12
    go_wp2_with fail
    generalize (w.alloc (.cells (cc c pa pn pc sa sn sc) 26)).alloc (.cells (cc d qa pn qc ta sn tc) 26) = W1 at *
    clear h0 h1 h2 h3 h4 h5 h6 h7 h8
    go_loopw [5, 6] (fun i _ wr => EqPR W1 b1 c.pr d.pr i wr) (fun i _ _ => pn - (intOf i).toNat)
    case atStart => exact ⟨0, by omega, rfl, HB1.out.symm, Below.refl _ _⟩
    case round =>
      obtain ⟨k, hk, rfl, hrk, hb⟩ := hrel
      rw [HPL.out] at hk
      have HRK := Lib.hid hrk
      have HBk := Lib.hid hb
      have X3 := Lib.hid (X1.out.below HBk.out)
      have Y3 := Lib.hid (Y1.out.below HBk.out)
      have c9 := (eleven X3.out).c9
      have d9 := (eleven Y3.out).c9
      clear hrk hb
      by_cases hlt : k < pn
      · obtain ⟨x, b, m, cp, p, rfl, hp, _, hx, hc0, ht⟩ := (H1.out.below HBk.out).pr.at_ hlt
        obtain ⟨y, b', m', cp', p', rfl, hp', _, hy, hd0, ht'⟩ := (H1'.out.below HBk.out).pr.at_ hlt
        have HS := Lib.hid (drop_step hp hp')
        have HT := Lib.hid ht
        have HT' := Lib.hid ht'
        have hm := ht.2.1
        have hm' := ht'.2.1
        unfold maxLen at hm hm'
        have i0 : (0 : Int) ≤ (k : Int) := by omega
        have i1 : (k : Int) < (pn : Int) := by omega
        clear hp hp' ht ht'
        by_cases hmm : m = m'
        case neg =>
          have hb1 : b1 = false := by
            rw [HRK.out]
            refine decide_eq_false (fun hh => hmm ?_)
            have := (HS.out.1 hh).1
            rw [← HT.out.1, ← HT'.out.1, this]
          have hr := HTB.out
          rw [hb1, Bool.false_and] at hr
          subst hr
          have hbm : ((m : Int) != (m' : Int)) = true := bne_of (by omega)
          clear hmm hb1
          go_wp2_with fail
          go_region
          go_wp2
          go_ret
          exact ⟨rfl, below_drew (B1.out.trans (HBk.out.mono B1.out.size))⟩
        subst hmm
        obtain ⟨e1, he1⟩ : ∃ e, decide (p = p') = e := ⟨_, rfl⟩
        have HE1 := Lib.hid he1
        have HRE := Lib.hid (show b1 = (e1 && decide (c.pr.drop (k + 1) = d.pr.drop (k + 1))) by
          rw [HRK.out, ← he1, ← Bool.decide_and]
          exact decide_eq_decide.2 HS.out)
        clear he1
        go_wp2_with fail
        go_region
        have HBk2 := Lib.hid (below_drew HBk.out)
        have X4 := Lib.hid (X1.out.below HBk2.out)
        have Y4 := Lib.hid (Y1.out.below HBk2.out)
        have HTd := Lib.hid (show Tris wr.drew _ b m p from HT.out.below (below_drew (Below.refl _ _)))
        have HTd' := Lib.hid (show Tris wr.drew _ b' m p' from HT'.out.below (below_drew (Below.refl _ _)))
        have hcd0 : wr.drew.cell? (x.add k) = some (.slice b m cp) := hc0
        have hdd0 : wr.drew.cell? (y.add k) = some (.slice b' m cp') := hd0
        have hx2 : x.block < wr.drew.heap.size := hx
        have hy2 : y.block < wr.drew.heap.size := hy
        clear X3 Y3 HT HT' hc0 hd0 hx hy c9 d9 HBk
        generalize wr.drew = W2 at *
        go_wp2_with fail
        go_loopw [6] (fun j wq => EqR W2 e1 p p' j wq) (fun j _ => m - (intOf j).toNat)
        case atStart => exact ⟨0, by omega, rfl, HE1.out.symm, Below.refl _ _⟩
        case round =>
          obtain ⟨j, hj, rfl, hrj, hb⟩ := hrel
          rw [HTd.out.1] at hj
          have HRJ := Lib.hid hrj
          have HBj := Lib.hid hb
          have X5 := Lib.hid (X4.out.below HBj.out)
          have Y5 := Lib.hid (Y4.out.below HBj.out)
          have c9 := (eleven X5.out).c9
          have d9 := (eleven Y5.out).c9
          have hc0 := (HBj.out.cell (p := x.add k) (by rw [block_add]; exact hx2)).trans hcd0
          have hd0 := (HBj.out.cell (p := y.add k) (by rw [block_add]; exact hy2)).trans hdd0
          have HBB := Lib.hid (B1.out.trans ((HBk2.out.trans (HBj.out.mono HBk2.out.size)).mono B1.out.size))
          clear hrj hb
          by_cases hlj : j < m
          · obtain ⟨xx, o, u, v, rfl, he, _, _, c0, c1, c2⟩ := (HTd.out.below HBj.out).at_ hlj
            obtain ⟨yy, o', u', v', rfl, he', _, _, d0, d1, d2⟩ := (HTd'.out.below HBj.out).at_ hlj
            have HS2 := Lib.hid (drop_step he he')
            have j0 : (0 : Int) ≤ (j : Int) := by omega
            have j1 : (j : Int) < (m : Int) := by omega
            clear he he'
            by_cases hxy : o = o' ∧ u = u' ∧ v = v'
            · obtain ⟨rfl, rfl, rfl⟩ := hxy
              have hr2 : e1 = decide (p.drop (j + 1) = p'.drop (j + 1)) := by
                rw [HRJ.out]
                exact decide_eq_decide.2 (HS2.out.trans ⟨fun h => h.2, fun h => ⟨rfl, h⟩⟩)
              have HR2 := Lib.hid hr2
              clear hr2
              go_wp2_with fail
              go_region
              go_wp2_with fail
              go_roundw
              case rel => exact ⟨j + 1, by rw [HTd.out.1]; omega, by go_num, HR2.out, below_drew HBj.out⟩
              case measure => simp [intOf]; omega
            · have hr2 : e1 = false := by
                rw [HRJ.out]
                refine decide_eq_false (fun hh => hxy ?_)
                have := (HS2.out.1 hh).1
                simpa using this
              have hr := HTB.out
              rw [HRE.out, hr2, Bool.false_and, Bool.false_and] at hr
              subst hr
              clear hr2
              by_cases ho : o = o'
              · subst ho
                by_cases hu : u = u'
                · subst hu
                  have hv : v ≠ v' := fun e => hxy ⟨rfl, rfl, e⟩
                  have hvb := beq_of hv
                  clear hxy hv
                  go_wp2_with fail
                  go_region
                  go_wp2
                  go_ret
                  exact ⟨rfl, below_drew HBB.out⟩
                · have hub := beq_of hu
                  clear hxy hu
                  go_wp2_with fail
                  go_region
                  go_wp2
                  go_ret
                  exact ⟨rfl, below_drew HBB.out⟩
              · have hob := beq_of ho
                clear hxy ho
                go_wp2_with fail
                go_region
                go_wp2
                go_ret
                exact ⟨rfl, below_drew HBB.out⟩
          · obtain rfl : j = m := by omega
            have hr : e1 = true := by
              rw [HRJ.out, List.drop_eq_nil_of_le (by rw [HTd.out.1]; omega), List.drop_eq_nil_of_le (by rw [HTd'.out.1]; omega)]
              rfl
            have hr2 : b1 = decide (c.pr.drop (k + 1) = d.pr.drop (k + 1)) := by rw [HRE.out, hr, Bool.true_and]
            have HR2 := Lib.hid hr2
            clear hr hr2
            go_wp2_with fail
            go_roundw
            case rel => exact ⟨k + 1, by rw [HPL.out]; omega, by go_num, HR2.out, HBk2.out.trans (HBj.out.mono HBk2.out.size)⟩
            case measure => simp [intOf]; omega
      · obtain rfl : k = pn := by omega
        have hb1 : b1 = true := by
          rw [HRK.out, List.drop_eq_nil_of_le (by rw [HPL.out]; omega), List.drop_eq_nil_of_le (by rw [HQL.out]; omega)]
          rfl
        have hr : t = b2 := by rw [HTB.out, hb1, Bool.true_and]
        have HR := Lib.hid hr
        clear hr hb1
        have c10 := (eleven X3.out).c10
        go_wp2_with fail
        clear c9 d9 c10
        go_loopw [7] (fun i wq => EqR wr b2 c.su d.su i wq) (fun i _ => sn - (intOf i).toNat)
        case atStart => exact ⟨0, by omega, rfl, HB2.out.symm, Below.refl _ _⟩
        case round =>
          obtain ⟨j, hj, rfl, hrj, hb⟩ := hrel
          rw [HSL.out] at hj
          have HRJ := Lib.hid hrj
          have HBj := Lib.hid hb
          have X5 := Lib.hid (X3.out.below HBj.out)
          have Y5 := Lib.hid (Y3.out.below HBj.out)
          have c10 := (eleven X5.out).c10
          have d10 := (eleven Y5.out).c10
          have HBB := Lib.hid (B1.out.trans ((HBk.out.trans (HBj.out.mono HBk.out.size)).mono B1.out.size))
          clear hrj hb
          by_cases hlj : j < sn
          · obtain ⟨xx, o, u, v, rfl, he, _, _, c0, c1, c2⟩ := ((H1.out.below HBk.out).below HBj.out).su.at_ hlj
            obtain ⟨yy, o', u', v', rfl, he', _, _, d0, d1, d2⟩ := ((H1'.out.below HBk.out).below HBj.out).su.at_ hlj
            have HS2 := Lib.hid (drop_step he he')
            have j0 : (0 : Int) ≤ (j : Int) := by omega
            have j1 : (j : Int) < (sn : Int) := by omega
            clear he he'
            by_cases hxy : o = o' ∧ u = u' ∧ v = v'
            · obtain ⟨rfl, rfl, rfl⟩ := hxy
              have hr2 : b2 = decide (c.su.drop (j + 1) = d.su.drop (j + 1)) := by
                rw [HRJ.out]
                exact decide_eq_decide.2 (HS2.out.trans ⟨fun h => h.2, fun h => ⟨rfl, h⟩⟩)
              have HR2 := Lib.hid hr2
              clear hr2
              go_wp2_with fail
              go_region
              go_wp2_with fail
              go_roundw
              case rel => exact ⟨j + 1, by rw [HSL.out]; omega, by go_num, HR2.out, below_drew HBj.out⟩
              case measure => simp [intOf]; omega
            · have hr2 : b2 = false := by
                rw [HRJ.out]
                refine decide_eq_false (fun hh => hxy ?_)
                have := (HS2.out.1 hh).1
                simpa using this
              have hr := HR.out
              rw [hr2] at hr
              subst hr
              clear hr2
              by_cases ho : o = o'
              · subst ho
                by_cases hu : u = u'
                · subst hu
                  have hv : v ≠ v' := fun e => hxy ⟨rfl, rfl, e⟩
                  have hvb := beq_of hv
                  clear hxy hv
                  go_wp2_with fail
                  go_region
                  go_wp2
                  go_ret
                  exact ⟨rfl, below_drew HBB.out⟩
                · have hub := beq_of hu
                  clear hxy hu
                  go_wp2_with fail
                  go_region
                  go_wp2
                  go_ret
                  exact ⟨rfl, below_drew HBB.out⟩
              · have hob := beq_of ho
                clear hxy ho
                go_wp2_with fail
                go_region
                go_wp2
                go_ret
                exact ⟨rfl, below_drew HBB.out⟩
          · obtain rfl : j = sn := by omega
            have hr2 : b2 = true := by
              rw [HRJ.out, List.drop_eq_nil_of_le (by rw [HSL.out]; omega), List.drop_eq_nil_of_le (by rw [HTL.out]; omega)]
              rfl
            have hr := HR.out
            rw [hr2] at hr
            subst hr
            clear hr2
            go_wp2
            go_ret
            exact ⟨rfl, HBB.out⟩
  · have ht : t = false := by
      rw [← HTT.out]
      exact decide_eq_false hcd
    subst ht
    clear hcd
    rcases hne with h0 | ⟨h0, h1⟩ | ⟨h0, h1, h2⟩ | ⟨h0, h1, h2, h3⟩ | ⟨h0, h1, h2, h3, h4⟩ | ⟨h0, h1, h2, h3, h4, h5⟩ | ⟨h0, h1, h2, h3, h4, h5, h6⟩ | ⟨h0, h1, h2, h3, h4, h5, h6, h7⟩ | ⟨h0, h1, h2, h3, h4, h5, h6, h7, h8⟩
    all_goals
      go_enter Try.func12, Try.ntmps12
      go_wp2
      go_ret
      exact ⟨rfl, B1.out⟩
end Go.Proofs.Ythiiidkkdlmneaa
