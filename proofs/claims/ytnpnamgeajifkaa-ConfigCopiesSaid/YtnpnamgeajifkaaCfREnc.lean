/-
  Contract of the reference's Encode. (Written by wip/gen_cfrenc.py.)
-/
import Derived.Test.YtnpnamgeajifkaaCfEncB
import Derived.Test.YtnpnamgeajifkaaCfChkC
import Derived.Deep.CutRange
import Derived.Deep.CutBlock
import Derived.Deep.RegionHeld
namespace Go.Proofs.Ytnpnamgeajifkaa
open Go Go.RowKit
set_option linter.unusedSimpArgs false

theorem beq_of' {x y : Int} (h : x ≠ y) : (x == y) = false := by simpa using h
set_option maxRecDepth 100000 in
set_option maxHeartbeats 16000000 in
theorem rencode_any {w : World} {B0 : Nat} {c : Cfg} {pa : Option Addr} {pn : Nat} {sa : Option Addr} {sn : Nat} (h : Lists w B0 c pa pn sa sn) (pc sc : Nat) :
    Calls Try.prog 18 #[cv c pa pn pc sa sn sc] w (Encoded c w) := by
  have HN := Lib.hid h.pr.1
  have HM := Lib.hid h.su.1
  have HH := Lib.hid h
  have H1 := Lib.hid (h.alloc (.cells (cc c pa pn pc sa sn sc) 25))
  have X1 := Lib.hid (Blk.made w 25 (cc c pa pn pc sa sn sc))
  have B1 := Lib.hid (below_one w (.cells (cc c pa pn pc sa sn sc) 25))
  have hs1 : w.heap.size < (w.alloc (.cells (cc c pa pn pc sa sn sc) 25)).heap.size := by simp
  clear h
  go_enter Try.func18, Try.ntmps18
  go_wp2_with fail
  generalize w.alloc (.cells (cc c pa pn pc sa sn sc) 25) = W0 at *
  (with_reducible refine (rcheck_any H1.out _ _).mono ?_)
  rintro e W1 ⟨rfl, b1⟩
  have X2 := Lib.hid (X1.out.below b1)
  have B2 := Lib.hid (B1.out.trans (b1.mono B1.out.size))
  have hs2 : w.heap.size < W1.heap.size := Nat.lt_of_lt_of_le hs1 b1.size
  clear b1 H1 X1 B1 hs1
  by_cases hk : chk c = 0
  case neg =>
    obtain ⟨R, hR⟩ : ∃ R, chk c = R := ⟨_, rfl⟩
    have HR := Lib.hid hR
    rw [hR] at hk ⊢
    have hp2 : (R != 0) = true := by simpa using hk
    have HK := Lib.hid hk
    clear hk hR
    go_wp2
    go_ret2
    exact ⟨_, [], _, rfl, OwnB.nil _ _, .inl ⟨by rw [HR.out]; exact HK.out, HR.out.symm, rfl⟩, B2.out⟩
  rw [hk]
  have HK := Lib.hid hk
  obtain ⟨hN, hP, hQ, hS⟩ := chk_ok hk
  obtain ⟨⟨n0, n0'⟩, ⟨n1, n1'⟩, ⟨n2, n2'⟩, ⟨n3, n3'⟩, ⟨n4, n4'⟩, ⟨n5, n5'⟩, ⟨n6, n6'⟩, ⟨n7, n7'⟩, ⟨n8, n8'⟩⟩ := numsB_iff.1 hN
  have hP2 := inB_iff.1 hP
  rw [HN.out] at hP2
  rw [HM.out] at hS
  obtain ⟨p1, p32⟩ := hP2
  have HQ := Lib.hid (chkPs_ok hQ)
  have HPL := Lib.hid (puts_length hk)
  have hc8 : c.cl ≤ 8 := by omega
  clear hN hP hQ n2' hk
  have hS0 : EncW c w (W1.heap.size + 1) W1.heap.size w.heap.size pa pn pc sa sn sc [] (W1.alloc (.cells #[.slice none 0 0, .slice none 0 0, .int .i64 0, .bool false] 59)) :=
    ⟨⟨_, [], false, Blk.made _ _ _, OwnB.nil _ _, Nat.le_refl _, fun _ => ⟨rfl, rfl⟩, (fun e => absurd e (by simp)), Nat.lt_succ_self _, by simp⟩, X2.out.alloc _, B2.out.alloc B2.out.size _, Nat.le_refl _, hs2⟩
  have S0 := Lib.hid hS0
  have hrl : W1.heap.size < (W1.alloc (.cells #[.slice none 0 0, .slice none 0 0, .int .i64 0, .bool false] 59)).heap.size := by simp
  have z0 : (W1.alloc (.cells #[.slice none 0 0, .slice none 0 0, .int .i64 0, .bool false] 59)).cell? ⟨w.heap.size, 0, none⟩ = some (.int .i64 c.wo) := hS0.e.c0
  clear hS0 X2 B2
  go_wp2_with fail
  generalize W1.alloc (.cells #[.slice none 0 0, .slice none 0 0, .int .i64 0, .bool false] 59) = W2 at *
  generalize W1.heap.size = r at *
  have hcr : w.heap.size ≠ r := by omega
  clear z0
  (with_reducible refine (put_any S0.out.st _ _ (by omega) (mem_num (by simp [pre0, puN])) (by simp)).mono ?_)
  rintro e y1 ⟨rfl, hs, hf⟩
  have S1 := Lib.hid (show EncW c w (r + 1) r w.heap.size pa pn pc sa sn sc [(c.wo - 1, 4)] y1 from S0.out.put hs hf)
  clear hs hf S0
  have z1 := S1.out.e.c1
  go_wp2_with fail
  (with_reducible refine (put_any S1.out.st _ _ (by omega) (mem_num (by simp [pre0, puN])) (by simp)).mono ?_)
  rintro e y2 ⟨rfl, hs, hf⟩
  have S2 := Lib.hid (show EncW c w (r + 1) r w.heap.size pa pn pc sa sn sc [(c.wo - 1, 4), (c.le - 1, 4)] y2 from S1.out.put hs hf)
  clear hs hf S1
  clear z1
  have z1 := S2.out.e.c1
  have z2 := S2.out.e.c2
  go_upto_region 7 with fail
  go_cut [34] from 28 to 35 (fun _ wx => EncW c w (r + 1) r w.heap.size pa pn pc sa sn sc [(c.wo - 1, 4), (c.le - 1, 4), (c.cl - 1, min 3 c.le)] wx)
  case first =>
    have hm : (c.le < 3 ∧ min 3 c.le = c.le) ∨ (¬ (c.le < 3) ∧ min 3 c.le = 3) := by omega
    rcases hm with ⟨hm, hm2⟩ | ⟨hm, hm2⟩
    all_goals
      have HM2 := Lib.hid hm2
      clear hm2
      go_wp2_with fail
      (with_reducible refine (put_any S2.out.st _ _ (by omega) (by have := mem_num (c := c) (e := (c.cl - 1, min 3 c.le)) (by simp [pre0, puN]); rw [HM2.out] at this; exact this) (by simp)).mono ?_)
      rintro e y3 ⟨rfl, hs, hf⟩
      have S3 := Lib.hid (S2.out.put hs hf)
      clear hs hf
      go_wp2_with fail
      go_meet
      case rel => rw [HM2.out]; exact S3.out
  case rest =>
    have S3 := Lib.hid hcut
    clear hcut S2 z1 z2
    have z_c3 := S3.out.e.c3
    go_wp2_with fail
    (with_reducible refine (put_any S3.out.st _ _ (by omega) (mem_num (by simp [pre0, puN])) (by simp)).mono ?_)
    rintro e y4 ⟨rfl, hs, hf⟩
    have S4 := Lib.hid (show EncW c w (r + 1) r w.heap.size pa pn pc sa sn sc [(c.wo - 1, 4), (c.le - 1, 4), (c.cl - 1, min 3 c.le), (c.ta - 1, 12)] y4 from S3.out.put hs hf)
    clear hs hf S3
    clear z_c3
    have z_c4 := S4.out.e.c4
    go_wp2_with fail
    (with_reducible refine (put_any S4.out.st _ _ (by omega) (mem_num (by simp [pre0, puN])) (by simp)).mono ?_)
    rintro e y5 ⟨rfl, hs, hf⟩
    have S5 := Lib.hid (show EncW c w (r + 1) r w.heap.size pa pn pc sa sn sc [(c.wo - 1, 4), (c.le - 1, 4), (c.cl - 1, min 3 c.le), (c.ta - 1, 12), (c.de - 1, 4)] y5 from S4.out.put hs hf)
    clear hs hf S4
    clear z_c4
    have z_c5 := S5.out.e.c5
    go_wp2_with fail
    (with_reducible refine (put_any S5.out.st _ _ (by omega) (mem_num (by simp [pre0, puN])) (by simp)).mono ?_)
    rintro e y6 ⟨rfl, hs, hf⟩
    have S6 := Lib.hid (show EncW c w (r + 1) r w.heap.size pa pn pc sa sn sc [(c.wo - 1, 4), (c.le - 1, 4), (c.cl - 1, min 3 c.le), (c.ta - 1, 12), (c.de - 1, 4), (c.he - 1, 4)] y6 from S5.out.put hs hf)
    clear hs hf S5
    clear z_c5
    have z_c6 := S6.out.e.c6
    have z_c4 := S6.out.e.c4
    go_wp2_with fail
    (with_reducible refine (put_any S6.out.st _ _ (by omega) (mem_num (by simp [pre0, puN])) (by simp)).mono ?_)
    rintro e y7 ⟨rfl, hs, hf⟩
    have S7 := Lib.hid (show EncW c w (r + 1) r w.heap.size pa pn pc sa sn sc [(c.wo - 1, 4), (c.le - 1, 4), (c.cl - 1, min 3 c.le), (c.ta - 1, 12), (c.de - 1, 4), (c.he - 1, 4), (c.ba - 1, c.de)] y7 from S6.out.put hs hf)
    clear hs hf S6
    clear z_c6 z_c4
    have z_c7 := S7.out.e.c7
    go_wp2_with fail
    (with_reducible refine (put_any S7.out.st _ _ (by omega) (mem_num (by simp [pre0, puN])) (by simp)).mono ?_)
    rintro e y8 ⟨rfl, hs, hf⟩
    have S8 := Lib.hid (show EncW c w (r + 1) r w.heap.size pa pn pc sa sn sc [(c.wo - 1, 4), (c.le - 1, 4), (c.cl - 1, min 3 c.le), (c.ta - 1, 12), (c.de - 1, 4), (c.he - 1, 4), (c.ba - 1, c.de), (c.ag, 6)] y8 from S7.out.put hs hf)
    clear hs hf S7
    clear z_c7
    have z_c8 := S8.out.e.c8
    go_wp2_with fail
    (with_reducible refine (put_any S8.out.st _ _ (by omega) (mem_num (by simp [pre0, puN])) (by simp)).mono ?_)
    rintro e y9 ⟨rfl, hs, hf⟩
    have S9 := Lib.hid (show EncW c w (r + 1) r w.heap.size pa pn pc sa sn sc [(c.wo - 1, 4), (c.le - 1, 4), (c.cl - 1, min 3 c.le), (c.ta - 1, 12), (c.de - 1, 4), (c.he - 1, 4), (c.ba - 1, c.de), (c.ag, 6), (c.pa - 1, 8)] y9 from S8.out.put hs hf)
    clear hs hf S8
    clear z_c8
    have z9 := S9.out.e.c9
    go_wp2_with fail
    (with_reducible refine (put_any S9.out.st _ _ (by omega) (by rw [← HN.out]; exact mem_num (by simp [pre0])) (by simp)).mono ?_)
    rintro e y10 ⟨rfl, hs, hf⟩
    have hS10 : EncW c w (r + 1) r w.heap.size pa pn pc sa sn sc (pre1 c 0) y10 := by
      have hh := S9.out.put hs hf
      rw [show pre1 c 0 = puN c ++ [((pn : Int) - 1, 4)] by unfold pre1 pre0; simp [HN.out]]
      exact hh
    have S10 := Lib.hid hS10
    clear hs hf S9 z9 hS10
    go_upto_block 0 with fail
    go_cut [7, 8, 9] from 74 to 141 (fun _ _ _ wx => EncW c w (r + 1) r w.heap.size pa pn pc sa sn sc (pre1 c pn) wx)
    case first =>
      go_wp2_with fail
      go_loopw [7] (fun i wr => EncP c w (r + 1) r w.heap.size pa pn pc sa sn sc i wr) (fun i _ => pn - (intOf i).toNat)
      case atStart => exact ⟨0, by omega, rfl, S10.out⟩
      case round =>
        obtain ⟨k, hk, rfl, hst⟩ := hrel
        have HS := Lib.hid hst
        have z9 := hst.e.c9
        obtain ⟨ov, bs, bad, hb, ho, hl, hno, hyes, hr, hB⟩ := hst.st
        have z3 : wr.cell? ⟨r, 3, none⟩ = some (.bool bad) := hb.at_ 3
        have HBD := Lib.hid hb
        have HOW := Lib.hid ho
        have HLN := Lib.hid hl
        have HYES := Lib.hid hyes
        clear hst S10 hb ho hl hno hyes
        by_cases hlt : k < pn
        · cases bad with
          | true =>
            have hrel : EncW c w (r + 1) r w.heap.size pa pn pc sa sn sc (pre1 c pn) wr :=
              ⟨EncSt.bad (pre := pre1 c k) HBD.out HOW.out HLN.out (HYES.out rfl) hr hB (by
                have h1 : (c.pr.take k).flatMap (puP c.pr.length c.le) <+: (c.pr.take pn).flatMap (puP c.pr.length c.le) := by
                  refine ⟨((c.pr.take pn).drop k).flatMap (puP c.pr.length c.le), ?_⟩
                  rw [← List.flatMap_append]
                  congr 1
                  rw [show c.pr.take k = (c.pr.take pn).take k by rw [List.take_take, Nat.min_eq_left (Nat.le_of_lt hlt)], List.take_append_drop]
                have := h1.length_le
                unfold pre1
                simp only [List.length_append]
                omega), HS.out.x, HS.out.b, HS.out.o1, HS.out.o2⟩
            have HREL := Lib.hid hrel
            clear hrel
            go_wp2_with fail
            go_meet
            case rel => exact HREL.out
          | false =>
            obtain ⟨x, b, m, cp, p, rfl, hp, _, hx, hc0, ht⟩ := HH.out.pr.at_ hlt
            have hpl := ht.1
            have hm32 := (HQ.out p (List.mem_of_getElem? hp)).1
            rw [hpl] at hm32
            have HP := Lib.hid hp
            have HT := Lib.hid ht
            have HPE := Lib.hid hpl
            have HC0 := Lib.hid hc0
            have hcw : wr.cell? (x.add k) = some (.slice b m cp) := (HS.out.b.cell (by rw [block_add]; exact hx)).trans hc0
            clear hp ht hpl hc0 HBD HOW HLN HYES
            go_wp2_with fail
            (with_reducible refine (put_any HS.out.st _ _ (by omega) (by have := mem_len HP.out; rw [HPE.out] at this; exact this) (by have := pre1_le c k; have := HPL.out; omega)).mono ?_)
            rintro e y1 ⟨rfl, hs, hf⟩
            have T1 := Lib.hid (HS.out.put hs hf)
            clear hs hf HS z3 z9 hcw
            have z9 := T1.out.e.c9
            have hcw : y1.cell? (x.add k) = some (.slice b m cp) := (T1.out.b.cell (by rw [block_add]; exact hx)).trans HC0.out
            go_wp2_with fail
            clear z9 hcw
            go_loopw [8] (fun j wq => EncI c w (r + 1) r w.heap.size (some x) pn pc sa sn sc (pre1 c k ++ [((m : Int), 6)]) p j wq) (fun j _ => m - (intOf j).toNat)
            case atStart => exact ⟨0, by omega, rfl, by simpa using T1.out⟩
            case round =>
              obtain ⟨j, hj, rfl, hst⟩ := hrel
              rw [HPE.out] at hj
              have z9 := hst.e.c9
              have hcw : wr.cell? (x.add k) = some (.slice b m cp) := (hst.b.cell (by rw [block_add]; exact hx)).trans HC0.out
              have HI := Lib.hid hst
              clear hst T1
              by_cases hlj : j < m
              · obtain ⟨L, hL⟩ : ∃ L, pre1 c k ++ [((m : Int), (6 : Int))] ++ (p.take j).flatMap (puI c.pr.length c.le) = L := ⟨_, rfl⟩
                have HLE := Lib.hid hL
                have hlen : L.length ≤ 5000 := by
                  rw [← hL]
                  have h1 := pre1_le c k
                  have h2 := HPL.out
                  have h3 := flatI_length c.pr.length c.le (p.take j)
                  have h4 : (p.take j).length ≤ j := List.length_take_le _ _
                  simp only [List.length_append, List.length_cons, List.length_nil]
                  omega
                have hh := HI.out
                rw [hL] at hh
                have HI2 := Lib.hid hh
                clear hh hL HI
                obtain ⟨yv, o, u, v, rfl, he, _, hy, c0, c1, c2⟩ := HT.out.at_ hlj
                have hv := (HQ.out p (List.mem_of_getElem? HP.out)).2 (o, u, v) (List.mem_of_getElem? he)
                rw [HN.out] at hv
                have HE := Lib.hid he
                have a0 := (HI2.out.b.cell (p := yv.add (j * 3)) (by rw [block_add]; exact hy)).trans c0
                have a1 := (HI2.out.b.cell (p := ⟨(yv.add (j * 3)).block, (yv.add (j * 3)).off + 1, none⟩) (by show (yv.add (j * 3)).block < _; rw [block_add]; exact hy)).trans c1
                have a2 := (HI2.out.b.cell (p := ⟨(yv.add (j * 3)).block, (yv.add (j * 3)).off + 2, none⟩) (by show (yv.add (j * 3)).block < _; rw [block_add]; exact hy)).trans c2
                have hoi := insB_in hv
                simp only at hoi
                have HV := Lib.hid hv
                have hrw : r ≠ wr.heap.size := by have := HI2.out.st.lt; omega
                clear he hv c0 c1 c2
                have ho : o = 0 ∨ o = 1 ∨ o = 2 := by omega
                rcases ho with rfl | rfl | rfl
                · have HPU := Lib.hid (show puI c.pr.length c.le (0, u, v) = [((0 : Int), (3 : Int)), (u - 1, 4)] by rw [HN.out]; rfl)
                  have hb := HV.out
                  rw [show insB pn c.le (0, u, v) = (inB u 1 64 && decide (v = 0)) from rfl, Bool.and_eq_true, inB_iff] at hb
                  obtain ⟨⟨u0, u1⟩, _⟩ := hb
                  have T2 := Lib.hid (HI2.out.alloc (.cells #[.int .i64 0, .int .i64 u, .int .i64 v] 47))
                  have XB := Lib.hid (Blk.made wr 47 #[.int .i64 0, .int .i64 u, .int .i64 v])
                  go_wp2_with fail
                  clear a0 a1 a2 z9 hcw
                  (with_reducible refine (put_any T2.out.st _ _ (by omega) (mem_ins HP.out HE.out (by rw [HPU.out]; simp)) (by first | omega | (simp; omega))).mono ?_)
                  rintro e y2 ⟨rfl, hs, hf⟩
                  have T3 := Lib.hid (T2.out.put hs hf)
                  have XB1 := Lib.hid (hf.blk XB.out (Ne.symm hrw) (by decide))
                  clear hs hf T2
                  have d0 : y2.cell? ⟨wr.heap.size, 0, none⟩ = some (.int .i64 0) := XB1.out.at_ 0
                  have d1 : y2.cell? ⟨wr.heap.size, 1, none⟩ = some (.int .i64 u) := XB1.out.at_ 1
                  go_wp2_with fail
                  (with_reducible refine (put_any T3.out.st _ _ (by omega) (mem_ins HP.out HE.out (by rw [HPU.out]; simp)) (by first | omega | (simp; omega))).mono ?_)
                  rintro e y3 ⟨rfl, hs, hf⟩
                  have T4 := Lib.hid (T3.out.put hs hf)
                  have XB2 := Lib.hid (hf.blk XB1.out (Ne.symm hrw) (by decide))
                  clear hs hf T3
                  have hfin : EncW c w (r + 1) r w.heap.size (some x) pn pc sa sn sc (pre1 c k ++ [((m : Int), 6)] ++ (p.take (j + 1)).flatMap (puI c.pr.length c.le)) y3 := by
                    rw [flat_step HE.out, ← List.append_assoc, HLE.out, HPU.out]
                    simpa [List.append_assoc] using T4.out
                  have HFIN := Lib.hid hfin
                  clear hfin
                  go_wp2_with fail
                  go_roundw
                  case rel => exact ⟨j + 1, by rw [HPE.out]; omega, by go_num, HFIN.out⟩
                  case measure => simp [intOf]; omega
                · have HPU := Lib.hid (show puI c.pr.length c.le (1, u, v) = [((1 : Int), (3 : Int)), (u, (pn : Int)), (v, c.le)] by rw [HN.out]; rfl)
                  have hb := HV.out
                  rw [show insB pn c.le (1, u, v) = (inB u 0 (pn - 1) && inB v 0 (c.le - 1)) from rfl, Bool.and_eq_true, inB_iff, inB_iff] at hb
                  obtain ⟨⟨u0, u1⟩, ⟨v0, v1⟩⟩ := hb
                  have T2 := Lib.hid (HI2.out.alloc (.cells #[.int .i64 1, .int .i64 u, .int .i64 v] 47))
                  have XB := Lib.hid (Blk.made wr 47 #[.int .i64 1, .int .i64 u, .int .i64 v])
                  go_wp2_with fail
                  clear a0 a1 a2 z9 hcw
                  (with_reducible refine (put_any T2.out.st _ _ (by omega) (mem_ins HP.out HE.out (by rw [HPU.out]; simp)) (by first | omega | (simp; omega))).mono ?_)
                  rintro e y2 ⟨rfl, hs, hf⟩
                  have T3 := Lib.hid (T2.out.put hs hf)
                  have XB1 := Lib.hid (hf.blk XB.out (Ne.symm hrw) (by decide))
                  clear hs hf T2
                  have d0 : y2.cell? ⟨wr.heap.size, 0, none⟩ = some (.int .i64 1) := XB1.out.at_ 0
                  have d1 : y2.cell? ⟨wr.heap.size, 1, none⟩ = some (.int .i64 u) := XB1.out.at_ 1
                  go_wp2_with fail
                  (with_reducible refine (put_any T3.out.st _ _ (by omega) (mem_ins HP.out HE.out (by rw [HPU.out]; simp)) (by first | omega | (simp; omega))).mono ?_)
                  rintro e y3 ⟨rfl, hs, hf⟩
                  have T4 := Lib.hid (T3.out.put hs hf)
                  have XB2 := Lib.hid (hf.blk XB1.out (Ne.symm hrw) (by decide))
                  clear hs hf T3
                  have e2 : y3.cell? ⟨wr.heap.size, 2, none⟩ = some (.int .i64 v) := XB2.out.at_ 2
                  have z1 := T4.out.e.c1
                  go_wp2_with fail
                  (with_reducible refine (put_any T4.out.st _ _ (by omega) (mem_ins HP.out HE.out (by rw [HPU.out]; simp)) (by first | omega | (simp; omega))).mono ?_)
                  rintro e y4 ⟨rfl, hs, hf⟩
                  have T5 := Lib.hid (T4.out.put hs hf)
                  have XB3 := Lib.hid (hf.blk XB2.out (Ne.symm hrw) (by decide))
                  clear hs hf T4
                  have hfin : EncW c w (r + 1) r w.heap.size (some x) pn pc sa sn sc (pre1 c k ++ [((m : Int), 6)] ++ (p.take (j + 1)).flatMap (puI c.pr.length c.le)) y4 := by
                    rw [flat_step HE.out, ← List.append_assoc, HLE.out, HPU.out]
                    simpa [List.append_assoc] using T5.out
                  have HFIN := Lib.hid hfin
                  clear hfin
                  go_wp2_with fail
                  go_roundw
                  case rel => exact ⟨j + 1, by rw [HPE.out]; omega, by go_num, HFIN.out⟩
                  case measure => simp [intOf]; omega
                · have HPU := Lib.hid (show puI c.pr.length c.le (2, u, v) = [((2 : Int), (3 : Int)), (u, 4)] by rw [HN.out]; rfl)
                  have hb := HV.out
                  rw [show insB pn c.le (2, u, v) = (inB u 0 31 && decide (v = 0)) from rfl, Bool.and_eq_true, inB_iff] at hb
                  obtain ⟨⟨u0, u1⟩, _⟩ := hb
                  have T2 := Lib.hid (HI2.out.alloc (.cells #[.int .i64 2, .int .i64 u, .int .i64 v] 47))
                  have XB := Lib.hid (Blk.made wr 47 #[.int .i64 2, .int .i64 u, .int .i64 v])
                  go_wp2_with fail
                  clear a0 a1 a2 z9 hcw
                  (with_reducible refine (put_any T2.out.st _ _ (by omega) (mem_ins HP.out HE.out (by rw [HPU.out]; simp)) (by first | omega | (simp; omega))).mono ?_)
                  rintro e y2 ⟨rfl, hs, hf⟩
                  have T3 := Lib.hid (T2.out.put hs hf)
                  have XB1 := Lib.hid (hf.blk XB.out (Ne.symm hrw) (by decide))
                  clear hs hf T2
                  have d0 : y2.cell? ⟨wr.heap.size, 0, none⟩ = some (.int .i64 2) := XB1.out.at_ 0
                  have d1 : y2.cell? ⟨wr.heap.size, 1, none⟩ = some (.int .i64 u) := XB1.out.at_ 1
                  go_wp2_with fail
                  (with_reducible refine (put_any T3.out.st _ _ (by omega) (mem_ins HP.out HE.out (by rw [HPU.out]; simp)) (by first | omega | (simp; omega))).mono ?_)
                  rintro e y3 ⟨rfl, hs, hf⟩
                  have T4 := Lib.hid (T3.out.put hs hf)
                  have XB2 := Lib.hid (hf.blk XB1.out (Ne.symm hrw) (by decide))
                  clear hs hf T3
                  have hfin : EncW c w (r + 1) r w.heap.size (some x) pn pc sa sn sc (pre1 c k ++ [((m : Int), 6)] ++ (p.take (j + 1)).flatMap (puI c.pr.length c.le)) y3 := by
                    rw [flat_step HE.out, ← List.append_assoc, HLE.out, HPU.out]
                    simpa [List.append_assoc] using T4.out
                  have HFIN := Lib.hid hfin
                  clear hfin
                  go_wp2_with fail
                  go_roundw
                  case rel => exact ⟨j + 1, by rw [HPE.out]; omega, by go_num, HFIN.out⟩
                  case measure => simp [intOf]; omega
              · obtain rfl : j = m := by omega
                have hfin : EncW c w (r + 1) r w.heap.size (some x) pn pc sa sn sc (pre1 c (k + 1)) wr := by
                  have hh := HI.out
                  rw [← HPE.out, List.take_length, HPE.out] at hh
                  rw [pre1_step HP.out, HPE.out]
                  exact hh
                have HFIN := Lib.hid hfin
                clear hfin
                go_wp2_with fail
                go_roundw
                case rel => exact ⟨k + 1, by omega, by go_num, HFIN.out⟩
                case measure => simp [intOf]; omega
        · obtain rfl : k = pn := by omega
          go_wp2_with fail
          go_meet
          case rel => exact HS.out
    case rest =>
      have S11 := Lib.hid hcut
      have z10 := hcut.e.c10
      clear hcut S10
      go_wp2_with fail
      (with_reducible refine (put_any S11.out.st _ _ (by omega) (by rw [← HM.out]; exact mem_cnt c) (by have := pre1_le c pn; have := HPL.out; omega)).mono ?_)
      rintro e y11 ⟨rfl, hs, hf⟩
      have hS12 : EncW c w (r + 1) r w.heap.size pa pn pc sa sn sc (pre2 c 0) y11 := by
        have hh := S11.out.put hs hf
        unfold pre2
        rw [HN.out, HM.out]
        simpa using hh
      have S12 := Lib.hid hS12
      clear hs hf S11 hS12 z10
      have z10 := S12.out.e.c10
      go_wp2_with fail
      clear z10
      go_loopw [10] (fun i wr => EncS c w (r + 1) r w.heap.size pa pn pc sa sn sc i wr) (fun i _ => sn - (intOf i).toNat)
      case atStart => exact ⟨0, by omega, rfl, S12.out⟩
      case round =>
        obtain ⟨k, hk, rfl, hst⟩ := hrel
        have HS := Lib.hid hst
        have z10 := hst.e.c10
        have hwr := hst.b.size
        clear hst S12
        by_cases hlt : k < sn
        · obtain ⟨x, o, u, v, rfl, he, _, hx, c0, c1, c2⟩ := HH.out.su.at_ hlt
          have hlen : (pre2 c k).length ≤ 5000 := by have := pre2_le c k; have := HPL.out; omega
          have HE := Lib.hid he
          have HC1 := Lib.hid c1
          have HC2 := Lib.hid c2
          have HPS := Lib.hid (show puS c.pr.length c.le (o, u, v) = [(o, (pn : Int)), (u, c.le), (v, 16)] by rw [HN.out]; rfl)
          have a0 := (HS.out.b.cell (p := x.add (k * 3)) (by rw [block_add]; exact hx)).trans c0
          have i0 : (0 : Int) ≤ (k : Int) := by omega
          have i1 : (k : Int) < (sn : Int) := by omega
          clear he c0 c1 c2
          go_wp2_with fail
          (with_reducible refine (put_any HS.out.st _ _ (by omega) (mem_sub HE.out (by rw [HPS.out]; simp)) (by first | omega | (simp; omega))).mono ?_)
          rintro e y1 ⟨rfl, hs, hf⟩
          have T1 := Lib.hid (HS.out.put hs hf)
          clear hs hf HS a0 z10
          have z10 := T1.out.e.c10
          have z1 := T1.out.e.c1
          have a1 := (T1.out.b.cell (p := ⟨(x.add (k * 3)).block, (x.add (k * 3)).off + 1, none⟩) (by show (x.add (k * 3)).block < _; rw [block_add]; exact hx)).trans HC1.out
          go_wp2_with fail
          go_still_tail 9, (by kernel_rfl)
          change wpList _ _ _ _ _ y1.drew
          have T2 := Lib.hid T1.out.drew
          clear T1
          generalize y1.drew = y1d at *
          clear z10 z1 a1
          go_wp2_with fail
          (with_reducible refine (put_any T2.out.st _ _ (by omega) (mem_sub HE.out (by rw [HPS.out]; simp)) (by first | omega | (simp; omega))).mono ?_)
          rintro e y2 ⟨rfl, hs, hf⟩
          have T3 := Lib.hid (T2.out.put hs hf)
          clear hs hf T2
          have z10 := T3.out.e.c10
          have a2 := (T3.out.b.cell (p := ⟨(x.add (k * 3)).block, (x.add (k * 3)).off + 2, none⟩) (by show (x.add (k * 3)).block < _; rw [block_add]; exact hx)).trans HC2.out
          go_wp2_with fail
          (with_reducible refine (put_any T3.out.st _ _ (by omega) (mem_sub HE.out (by rw [HPS.out]; simp)) (by first | omega | (simp; omega))).mono ?_)
          rintro e y3 ⟨rfl, hs, hf⟩
          have hfin : EncW c w (r + 1) r w.heap.size pa pn pc (some x) sn sc (pre2 c (k + 1)) y3 := by
            have hh := T3.out.put hs hf
            rw [pre2_step HE.out, HN.out]
            simpa [List.append_assoc] using hh
          have HFIN := Lib.hid hfin
          clear hfin hs hf T3 z10 a2
          go_wp2_with fail
          go_roundw
          case rel => exact ⟨k + 1, by omega, by go_num, HFIN.out⟩
          case measure => simp [intOf]; omega
        · obtain rfl : k = sn := by omega
          have hall : pre2 c k = puts c := by rw [← HM.out]; exact pre2_all c
          obtain ⟨ov, bs, bad, hb, ho, hl, hno, hyes, hr, hB⟩ := HS.out.st
          rw [hall] at hno
          have z3 : wr.cell? ⟨r, 3, none⟩ = some (.bool bad) := hb.at_ 3
          have HBW := Lib.hid HS.out.b
          cases bad with
          | true =>
            have HF := Lib.hid (hyes rfl)
            clear hb ho hl hno hyes hall HS
            go_wp2
            go_ret2
            exact ⟨_, [], _, rfl, OwnB.nil _ _, .inr (.inl ⟨HK.out, HF.out, rfl, rfl⟩), HBW.out⟩
          | false =>
            obtain ⟨hf1, hf2⟩ := hno rfl
            obtain ⟨m, hm⟩ : ∃ m, bs.length = m := ⟨_, rfl⟩
            obtain ⟨oa0, oc0, rfl, _⟩ := ho.form hm
            have HT0 := Lib.hid (show TrimR w (r + 1) r bs wr from ⟨bs.length, oa0, oc0, Nat.le_refl _, by rw [hm]; exact hb, by rw [List.take_length, hm]; exact ho, fun j hj => by rw [List.getD_eq_getElem?_getD, List.getElem?_eq_none (by omega)]; rfl, HBW.out⟩)
            have HF := Lib.hid (show fits c = true from hf1)
            have HBS := Lib.hid (show bs = vals c from hf2)
            have hml : m ≤ 5000 := by have := pre2_le c k; have := HPL.out; omega
            have HML := Lib.hid hm
            clear hb ho hl hno hyes hall HS hf1 hf2 hm
            go_wp2_with fail
            clear z3 z10
            go_loopw [190] (fun _ wr => TrimR w (r + 1) r bs wr) (fun _ u => lenAt u ⟨r, 1, none⟩)
            case atStart => exact HT0.out
            case round =>
              obtain ⟨q, oa, oc, hq, hb, ho, hz, hbw⟩ := hrel
              rw [HML.out] at hq
              have HB := Lib.hid hb
              have HO := Lib.hid ho
              have HZ := Lib.hid hz
              have HW := Lib.hid hbw
              have t1 : wr.cell? ⟨r, 1, none⟩ = some (.slice oa q oc) := hb.at_ 1
              have f1 := hb.free 1
              clear hb ho hz hbw HT0 HBW
              by_cases hq0 : q = 0
              · subst hq0
                have hS0 : wr.drew.cell? ⟨r, 1, none⟩ = some (.slice oa 0 oc) := t1
                go_wp2_with fail
                refine wp_region_held_drew (S := (fun u => u.cell? ⟨r, 1, none⟩ = some (.slice oa 0 oc))) (by kernel_rfl) hS0 (fun _ => ?_)
                change wpAnyH _ _ _ _ _ 21 #[false, false, false, false, false, false, false, false, false, false, false, false, false, false, false, false, false, false, false, false, false] _ (World.drew _)
                refine wpAnyH_take (i := 0) (v := .pointer (some ⟨r, 0, none⟩)) rfl (by kernel_rfl) (by kernel_rfl) (by kernel_rfl) (fun _ _ _ h => h) (Or.inl ⟨by rfl, fun u hu => by (go_simp)⟩) hS0 ?_
                simp only [List.getElem_toArray, List.getElem_cons_succ, List.getElem_cons_zero, Act.put, List.setIfInBounds_toArray, List.set_cons_zero, List.set_cons_succ]
                refine wpAnyH_take (i := 1) (v := .pointer (some ⟨r, 0, none⟩)) rfl (by kernel_rfl) (by kernel_rfl) (by kernel_rfl) (fun _ _ _ h => h) (Or.inl ⟨by rfl, fun u hu => by (go_simp)⟩) hS0 ?_
                simp only [List.getElem_toArray, List.getElem_cons_succ, List.getElem_cons_zero, Act.put, List.setIfInBounds_toArray, List.set_cons_zero, List.set_cons_succ]
                refine wpAnyH_take (i := 2) (v := .pointer (some ⟨r, 1, none⟩)) rfl (by kernel_rfl) (by kernel_rfl) (by kernel_rfl) (fun _ _ _ h => h) (Or.inl ⟨by rfl, fun u hu => by (go_simp)⟩) hS0 ?_
                simp only [List.getElem_toArray, List.getElem_cons_succ, List.getElem_cons_zero, Act.put, List.setIfInBounds_toArray, List.set_cons_zero, List.set_cons_succ]
                refine wpAnyH_take (i := 3) (v := .slice oa 0 oc) rfl (by kernel_rfl) (by kernel_rfl) (by kernel_rfl) (fun _ _ _ h => h) (Or.inl ⟨by rfl, fun u hu => by (go_simp)⟩) hS0 ?_
                simp only [List.getElem_toArray, List.getElem_cons_succ, List.getElem_cons_zero, Act.put, List.setIfInBounds_toArray, List.set_cons_zero, List.set_cons_succ]
                refine wpAnyH_take (i := 4) (v := .int .i64 0) rfl (by kernel_rfl) (by kernel_rfl) (by kernel_rfl) (fun _ _ _ h => h) (Or.inl ⟨by rfl, fun u hu => by (go_simp)⟩) hS0 ?_
                simp only [List.getElem_toArray, List.getElem_cons_succ, List.getElem_cons_zero, Act.put, List.setIfInBounds_toArray, List.set_cons_zero, List.set_cons_succ]
                refine wpAnyH_take (i := 5) (v := .bool false) rfl (by kernel_rfl) (by kernel_rfl) (by kernel_rfl) (fun _ _ _ h => h) (Or.inl ⟨by rfl, fun u hu => by (go_simp)⟩) hS0 ?_
                simp only [List.getElem_toArray, List.getElem_cons_succ, List.getElem_cons_zero, Act.put, List.setIfInBounds_toArray, List.set_cons_zero, List.set_cons_succ]
                refine wpAnyH_take (i := 6) (v := .bool false) rfl (by kernel_rfl) (by kernel_rfl) (by kernel_rfl) (fun _ _ _ h => h) (Or.inl ⟨by rfl, fun u hu => by (go_simp)⟩) hS0 ?_
                simp only [List.getElem_toArray, List.getElem_cons_succ, List.getElem_cons_zero, Act.put, List.setIfInBounds_toArray, List.set_cons_zero, List.set_cons_succ]
                refine wpAnyH_take (i := 7) (v := undef) rfl (by kernel_rfl) (by kernel_rfl) (by kernel_rfl) (fun _ _ _ h => h) (Or.inr ⟨by rfl, rfl⟩) hS0 ?_
                simp only [List.getElem_toArray, List.getElem_cons_succ, List.getElem_cons_zero, Act.put, List.setIfInBounds_toArray, List.set_cons_zero, List.set_cons_succ]
                refine wpAnyH_take (i := 8) (v := undef) rfl (by kernel_rfl) (by kernel_rfl) (by kernel_rfl) (fun _ _ _ h => h) (Or.inr ⟨by rfl, rfl⟩) hS0 ?_
                simp only [List.getElem_toArray, List.getElem_cons_succ, List.getElem_cons_zero, Act.put, List.setIfInBounds_toArray, List.set_cons_zero, List.set_cons_succ]
                refine wpAnyH_take (i := 9) (v := undef) rfl (by kernel_rfl) (by kernel_rfl) (by kernel_rfl) (fun _ _ _ h => h) (Or.inr ⟨by rfl, rfl⟩) hS0 ?_
                simp only [List.getElem_toArray, List.getElem_cons_succ, List.getElem_cons_zero, Act.put, List.setIfInBounds_toArray, List.set_cons_zero, List.set_cons_succ]
                refine wpAnyH_take (i := 10) (v := undef) rfl (by kernel_rfl) (by kernel_rfl) (by kernel_rfl) (fun _ _ _ h => h) (Or.inr ⟨by rfl, rfl⟩) hS0 ?_
                simp only [List.getElem_toArray, List.getElem_cons_succ, List.getElem_cons_zero, Act.put, List.setIfInBounds_toArray, List.set_cons_zero, List.set_cons_succ]
                refine wpAnyH_take (i := 11) (v := undef) rfl (by kernel_rfl) (by kernel_rfl) (by kernel_rfl) (fun _ _ _ h => h) (Or.inr ⟨by rfl, rfl⟩) hS0 ?_
                simp only [List.getElem_toArray, List.getElem_cons_succ, List.getElem_cons_zero, Act.put, List.setIfInBounds_toArray, List.set_cons_zero, List.set_cons_succ]
                refine wpAnyH_take (i := 12) (v := undef) rfl (by kernel_rfl) (by kernel_rfl) (by kernel_rfl) (fun _ _ _ h => h) (Or.inr ⟨by rfl, rfl⟩) hS0 ?_
                simp only [List.getElem_toArray, List.getElem_cons_succ, List.getElem_cons_zero, Act.put, List.setIfInBounds_toArray, List.set_cons_zero, List.set_cons_succ]
                refine wpAnyH_take (i := 13) (v := undef) rfl (by kernel_rfl) (by kernel_rfl) (by kernel_rfl) (fun _ _ _ h => h) (Or.inr ⟨by rfl, rfl⟩) hS0 ?_
                simp only [List.getElem_toArray, List.getElem_cons_succ, List.getElem_cons_zero, Act.put, List.setIfInBounds_toArray, List.set_cons_zero, List.set_cons_succ]
                refine wpAnyH_take (i := 14) (v := undef) rfl (by kernel_rfl) (by kernel_rfl) (by kernel_rfl) (fun _ _ _ h => h) (Or.inr ⟨by rfl, rfl⟩) hS0 ?_
                simp only [List.getElem_toArray, List.getElem_cons_succ, List.getElem_cons_zero, Act.put, List.setIfInBounds_toArray, List.set_cons_zero, List.set_cons_succ]
                refine wpAnyH_take (i := 15) (v := undef) rfl (by kernel_rfl) (by kernel_rfl) (by kernel_rfl) (fun _ _ _ h => h) (Or.inr ⟨by rfl, rfl⟩) hS0 ?_
                simp only [List.getElem_toArray, List.getElem_cons_succ, List.getElem_cons_zero, Act.put, List.setIfInBounds_toArray, List.set_cons_zero, List.set_cons_succ]
                refine wpAnyH_take (i := 16) (v := undef) rfl (by kernel_rfl) (by kernel_rfl) (by kernel_rfl) (fun _ _ _ h => h) (Or.inr ⟨by rfl, rfl⟩) hS0 ?_
                simp only [List.getElem_toArray, List.getElem_cons_succ, List.getElem_cons_zero, Act.put, List.setIfInBounds_toArray, List.set_cons_zero, List.set_cons_succ]
                refine wpAnyH_take (i := 17) (v := undef) rfl (by kernel_rfl) (by kernel_rfl) (by kernel_rfl) (fun _ _ _ h => h) (Or.inr ⟨by rfl, rfl⟩) hS0 ?_
                simp only [List.getElem_toArray, List.getElem_cons_succ, List.getElem_cons_zero, Act.put, List.setIfInBounds_toArray, List.set_cons_zero, List.set_cons_succ]
                refine wpAnyH_take (i := 18) (v := undef) rfl (by kernel_rfl) (by kernel_rfl) (by kernel_rfl) (fun _ _ _ h => h) (Or.inr ⟨by rfl, rfl⟩) hS0 ?_
                simp only [List.getElem_toArray, List.getElem_cons_succ, List.getElem_cons_zero, Act.put, List.setIfInBounds_toArray, List.set_cons_zero, List.set_cons_succ]
                refine wpAnyH_take (i := 19) (v := undef) rfl (by kernel_rfl) (by kernel_rfl) (by kernel_rfl) (fun _ _ _ h => h) (Or.inr ⟨by rfl, rfl⟩) hS0 ?_
                simp only [List.getElem_toArray, List.getElem_cons_succ, List.getElem_cons_zero, Act.put, List.setIfInBounds_toArray, List.set_cons_zero, List.set_cons_succ]
                refine wpAnyH_take (i := 20) (v := .bool false) rfl (by kernel_rfl) (by kernel_rfl) (by kernel_rfl) (fun _ _ _ h => h) (Or.inl ⟨by rfl, fun u hu => by (go_simp)⟩) hS0 ?_
                simp only [List.getElem_toArray, List.getElem_cons_succ, List.getElem_cons_zero, Act.put, List.setIfInBounds_toArray, List.set_cons_zero, List.set_cons_succ]
                refine wpAnyH_done (by kernel_rfl) ?_ _
                go_wp2
                go_ret2
                refine ⟨_, [], _, rfl, ?_, .inr (.inr ⟨HK.out, HF.out, rfl, ⟨0, by simp, by simp, fun j hj => ?_, .inl rfl⟩⟩), below_drew HW.out⟩
                · have := HO.out
                  rw [List.take_zero] at this
                  exact (this.below (below_drew (Below.refl _ _))).mono (by omega)
                · rw [← HBS.out]
                  exact HZ.out j hj
              · obtain ⟨q, rfl⟩ : ∃ q', q = q' + 1 := ⟨q - 1, by omega⟩
                obtain ⟨x, rfl, ho2, hcx, hoc, hxB⟩ := HO.out.pop (by rw [List.length_take, HML.out]; omega)
                have hgd : (bs.take (q + 1)).getD q 0 = bs.getD q 0 := by
                  rw [List.getD_eq_getElem?_getD, List.getD_eq_getElem?_getD, List.getElem?_take, if_pos (by omega)]
                rw [hgd] at hcx
                have HO2 := Lib.hid ho2
                obtain ⟨z, hzz⟩ : ∃ z, bs.getD q 0 = z := ⟨_, rfl⟩
                rw [hzz] at hcx
                have HZZ := Lib.hid hzz
                have i0 : (0 : Int) ≤ (q : Int) := by omega
                have i1 : (q : Int) < (q : Int) + 1 := by omega
                clear ho2 hgd hzz
                by_cases hz0 : z = 0
                · subst hz0
                  have hp := Blk.put (show Blk wr.drew.drew r 59 #[.slice none 0 0, .slice (some x) (q + 1) oc, .int .i64 0, .bool false] from HB.out) 1 (.slice (some x) q oc)
                  simp only [List.setIfInBounds_toArray, List.set_cons_zero, List.set_cons_succ] at hp
                  have hrel : TrimR w (r + 1) r bs (wr.drew.drew.setCell ⟨r, 1, none⟩ (.slice (some x) q oc)) := by
                    refine ⟨q, some x, oc, by rw [HML.out]; omega, hp, ?_, trim_step HZ.out HZZ.out, (below_drew (below_drew HW.out)).setCell (by show w.heap.size ≤ r; omega) _⟩
                    have ho3 := HO2.out
                    rw [List.take_take, Nat.min_eq_left (by omega)] at ho3
                    refine OwnB.same (w := wr.drew.drew) ho3 fun y hy => Below.heap_setCell _ ⟨r, 1, none⟩ _ y ?_
                    have hyb : x.block = y := by simpa [Value.ownBlock] using hy
                    show y ≠ r
                    omega
                  have hl1 : lenAt wr ⟨r, 1, none⟩ = q + 1 := by
                    unfold lenAt
                    rw [t1]
                  have hl2 : lenAt (wr.drew.drew.setCell ⟨r, 1, none⟩ (.slice (some x) q oc)) ⟨r, 1, none⟩ = q := by
                    unfold lenAt
                    rw [show (wr.drew.drew.setCell ⟨r, 1, none⟩ (.slice (some x) q oc)).cell? ⟨r, 1, none⟩ = some (.slice (some x) q oc) from hp.at_ 1]
                  have HREL := Lib.hid hrel
                  have HL1 := Lib.hid hl1
                  have HL2 := Lib.hid hl2
                  clear hp hrel hl1 hl2
                  go_wp2_with fail
                  go_region
                  go_wp2_with fail
                  go_region
                  go_wp2_with fail
                  go_roundw
                  case rel => exact HREL.out
                  case measure =>
                    rw [HL1.out]
                    have := HL2.out
                    exact Nat.lt_of_le_of_lt (Nat.le_of_eq this) (Nat.lt_succ_self _)
                · have hzb := beq_of' hz0
                  have HZ0 := Lib.hid hz0
                  clear hz0
                  go_wp2_with fail
                  go_region
                  go_wp2
                  go_ret2
                  refine ⟨_, bs.take (q + 1), _, rfl, (HO.out.below (below_drew (Below.refl _ _))).mono (by omega), .inr (.inr ⟨HK.out, HF.out, rfl, ⟨q + 1, ?_, by rw [HBS.out], fun j hj => ?_, .inr ?_⟩⟩), below_drew HW.out⟩
                  · rw [← HBS.out, HML.out]
                    omega
                  · rw [← HBS.out]
                    exact HZ.out j hj
                  · rw [← HBS.out]
                    intro e
                    apply HZ0.out
                    rw [← HZZ.out]
                    exact e
end Go.Proofs.Ytnpnamgeajifkaa
