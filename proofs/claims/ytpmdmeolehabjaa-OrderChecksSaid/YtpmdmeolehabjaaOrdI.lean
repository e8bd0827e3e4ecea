/-
  The reference's order: Left.
-/
import Derived.Test.YtpmdmeolehabjaaOrdH
namespace Go.Proofs.Ytpmdmeolehabjaa
open Go Go.RowKit
set_option linter.unusedSimpArgs false
set_option linter.unusedVariables false

theorem chkPs_le (n le : Int) : ∀ l : List (List T3), 0 ≤ chkPs n le l ∧ chkPs n le l ≤ 3
  | [] => by unfold chkPs; omega
  | p :: r => by
    have := chkPs_le n le r
    unfold chkPs
    split
    · omega
    split <;> omega
theorem chkSs_le (n le : Int) : ∀ l : List T3, 0 ≤ chkSs n le l ∧ chkSs n le l ≤ 3
  | [] => by unfold chkSs; omega
  | s :: r => by
    have := chkSs_le n le r
    unfold chkSs
    split
    · split <;> omega
    · omega
theorem chk_le (c : Cfg) : chk c ≠ 6 := by
  have h1 := chkPs_le c.pr.length c.le c.pr
  have h2 := chkSs_le c.pr.length c.le c.su
  unfold chk progsR subsR
  repeat' split
  all_goals omega
set_option maxHeartbeats 8000000 in
theorem rleft_any {w : World} {c : Cfg} {pa : Option Addr} {pn : Nat} (pc : Nat) {sa : Option Addr} {sn : Nat} (sc : Nat) {la : Option Addr} {es : List Ev} (lc : Nat) (hl : Lists w 0 c pa pn sa sn) (he : InE w la es) (hle : es.length ≤ 1000) :
    Calls Try.prog 17 #[cv c pa pn pc sa sn sc, .slice la es.length lc] w fun e w' => ∃ u l, e = .returned u ∧ OwnI w' w.heap.size u l ∧ LefO c es l ∧ Below w.heap.size w w' := by
  have hX := Blk.made w 25 (cc c pa pn pc sa sn sc)
  have HB := Lib.hid (below_one w (.cells (cc c pa pn pc sa sn sc) 25))
  obtain ⟨e0, e1, e2, e3, e4, e5, e6, e7, e8, e9, e10⟩ := eleven hX
  have HX := Lib.hid hX
  have HL := Lib.hid hl
  have HE := Lib.hid he
  have hck := rchk_any pc sc lc (HL.out.below HB.out) (HE.out.below HB.out) hle
  obtain ⟨L, hL⟩ : ∃ L, es.length = L := ⟨_, rfl⟩
  have HLL := Lib.hid hL
  rw [hL] at hle hck ⊢
  have HCK := Lib.hid hck
  clear hX hl he hL hck
  go_enter Try.func17, Try.ntmps17
  go_wp2_with (with_reducible refine HCK.out.mono ?_)
  rintro e w1 ⟨n1, err, rfl, hco, hb1⟩
  have HB1 := Lib.hid (HB.out.trans (hb1.mono HB.out.size))
  have HX1 := Lib.hid (HX.out.below hb1)
  clear e0 e1 e2 e3 e4 e5 e6 e7 e8 e9 e10 hb1 HCK
  rcases hco with ⟨h0, rfl, rfl⟩ | ⟨h0, nn, kf, hfol, rfl, herr⟩
  · have hne0 : (chk c != 0) = true := bne_iff_ne.2 h0
    have hne6 : (chk c != 6) = true := bne_iff_ne.2 (chk_le c)
    have H0 := Lib.hid h0
    obtain ⟨R, hR⟩ : ∃ R, chk c = R := ⟨_, rfl⟩
    rw [hR] at hne0 hne6 ⊢
    clear h0 hR
    go_wp2
    go_ret
    exact ⟨_, [], rfl, OwnI.nil _ _, .inl ⟨H0.out, rfl⟩, HB1.out⟩
  have H0 := Lib.hid h0
  have HF := Lib.hid hfol
  have hnl : nn ≤ L := by have := hfol.le; rw [HLL.out] at this; exact this
  have hbad : ((err != 0) && (err != 6)) = false := by
    rw [herr]
    split <;> rfl
  have hq := Blk.made w1 64 #[.slice none 0 0, .int .i64 0]
  have hqb := below_one w1 (.cells #[.slice none 0 0, .int .i64 0] 64)
  have HRT := Lib.hid (show RT (w1.alloc (.cells #[.slice none 0 0, .int .i64 0] 64)) w.heap.size w1.heap.size (.slice none 0 0) con0 from ⟨hq, OwnG.nil _ _ _ _, HB1.out.size⟩)
  have HX2 := Lib.hid (HX1.out.below hqb)
  have HB2 := Lib.hid (HB1.out.trans (hqb.mono HB1.out.size))
  have hq1 : w.heap.size < w1.heap.size := HX1.out.lt
  clear hq hqb h0 hfol
  have main : ∀ er : Int, ((er != 0) && (er != 6)) = false → er = err → True := fun _ _ _ => trivial
  clear main
  obtain ⟨z0, z6⟩ : (err = 0 ∨ err = 6) ∧ True := ⟨by rw [herr]; split; exact .inr rfl; exact .inl rfl, trivial⟩
  have HERR := Lib.hid herr
  clear herr hbad z6
  rcases z0 with rfl | rfl
  all_goals
    go_wp2_with fail
    generalize w1.alloc (.cells #[.slice none 0 0, .int .i64 0] 64) = W2 at *
    generalize w1.heap.size = q at *
    go_loopw [8] (fun v8 wr => ∃ (i : Nat) (v : Value) (k : Con), v8 = .int .i64 i ∧ i ≤ nn ∧ preO c (es.take i) con0 = some k ∧ RT wr w.heap.size q v k ∧ Blk wr w.heap.size 25 (cc c pa pn pc sa sn sc) ∧ Below w.heap.size w wr) (fun v _ => nn - (intOf v).toNat)
    case atStart => exact ⟨0, .slice none 0 0, con0, rfl, Nat.zero_le _, rfl, HRT.out, HX2.out, HB2.out⟩
    case round =>
      obtain ⟨i, v, k, rfl, hi, hpre, hrt, hbx, hb⟩ := hrel
      have HP := Lib.hid hpre
      have HR := Lib.hid hrt
      have HBX := Lib.hid hbx
      have HB' := Lib.hid hb
      clear hpre hrt hbx hb HRT HX2 HB2
      have hin := preO_in (c := c) (chk_he H0.out).1 (by rw [HLL.out]; omega) HP.out
      by_cases hlt : i < nn
      · obtain ⟨x9, z9, hx9, hz9⟩ := preO_less HF.out.pre hlt HF.out.le
        have e9 := HP.out.symm.trans hx9
        simp only [Option.some.injEq] at e9
        subst e9
        obtain ⟨d, hd⟩ : ∃ d, es[i]? = some d := ⟨_, List.getElem?_eq_getElem (by rw [HLL.out]; omega)⟩
        rw [List.getD_eq_getElem?_getD, hd] at hz9
        have hch : chO c k d = some z9 := hz9
        have hev := HE.out.below HB'.out
        have hsu := (HL.out.below HB'.out).su
        obtain ⟨y, rfl, d0, d1, d2, d3, d4⟩ := hev.at_ hd
        have hH := chk_he H0.out
        have hcall := fun u (hu : Below wr.heap.size wr u) => rapply_any (HR.out.below hu) c pa pn pc sc d (hsu.below hu) (Nat.le_trans HB'.out.size hu.size) (by have := hin.he; omega) (by have := hin.ni; omega) hin.he
        rw [hch] at hcall
        have HCALL := Lib.hid hcall
        have HST := Lib.hid ((preO_step HP.out hd).trans hch)
        obtain ⟨c0, c1, c2, c3, c4, c5, c6, c7, c8, c9, c10⟩ := eleven HBX.out
        have i0 : (0 : Int) ≤ (i : Int) := by omega
        have i1 : (i : Int) < (L : Int) := by omega
        clear hev hsu hcall hin hd hH hx9 hz9 hch
        go_wp2_with fail
        go_still_tail 5, (by kernel_rfl)
        change wpList _ _ _ _ _ wr.drew
        have HD0 := Lib.hid (show Below wr.heap.size wr wr.drew from below_drew (Below.refl _ _))
        clear c0 c1 c2 c3 c4 c5 c6 c7 c8 c9 c10 d0 d1 d2 d3 d4
        generalize wr.drew = w4 at *
        go_wp2_with fail
        (with_reducible refine (HCALL.out w4 HD0.out).mono ?_)
        rintro e w5 ⟨rfl, v', hrt5, hf5⟩
        have hb5 : Below w.heap.size w w5 := by
          have h1 := HB'.out.size
          refine (HB'.out.trans (HD0.out.mono h1)).trans (hf5.below (Nat.le_trans h1 HD0.out.size) (fun b hb => by simp at hb; omega))
        have HBX5 := Lib.hid ((HBX.out.below HD0.out).of_same (hf5.block _ (HBX.out.below HD0.out).lt (by simp; omega)))
        have HB5 := Lib.hid hb5
        have HR5 := Lib.hid (show RT w5 w.heap.size q v' z9 from hrt5)
        clear hrt5 hf5 hb5 HCALL
        go_wp2
        go_roundw
        all_goals first
          | exact ⟨i + 1, v', z9, by push_cast; rfl, by omega, HST.out, HR5.out, HBX5.out, HB5.out⟩
          | (simp only [intOf]; omega)
      · obtain rfl : i = nn := by omega
        have e9 := HP.out.symm.trans HF.out.pre
        simp only [Option.some.injEq] at e9
        subst e9
        have hlen1 : k.ks.length ≤ 1000 := by have := hin.he; have := chk_he H0.out; omega
        have HK1 := Lib.hid hlen1
        obtain ⟨TT, hTT⟩ : ∃ TT, tskO k.ks.length k.ks = TT := ⟨_, rfl⟩
        have HTT := Lib.hid hTT
        clear hin hlen1 hTT hlt
        go_wp2_with fail
        go_loopw [9] (fun u wr => ∃ (v2 : Value) (k : Con) (out : List Int), RT wr w.heap.size q v2 k ∧ OwnI wr w.heap.size u out ∧ out ++ tskO k.ks.length k.ks = TT ∧ k.ks.length + out.length ≤ 1000 ∧ Below w.heap.size w wr) (fun _ wr => match wr.cell? ⟨q, 0, none⟩ with | some (.slice _ n _) => n | _ => 0)
        case atStart => exact ⟨v, k, [], HR.out, OwnI.nil _ _, by rw [← HTT.out]; rfl, by simpa using HK1.out, HB'.out⟩
        case round =>
          obtain ⟨v2, k2, out, hrt2, hown, htk, hlen, hb2⟩ := hrel
          have HC := Lib.hid hrt2
          have HO := Lib.hid hown
          have HT := Lib.hid htk
          have HLN := Lib.hid hlen
          have HBV := Lib.hid hb2
          obtain ⟨ua, uc, rfl, _⟩ := OwnI.form hown
          obtain ⟨a, cap, hv', hc, hcell⟩ := hrt2.form
          have HVF := Lib.hid hv'
          have x0 : wr.cell? ⟨q, 0, none⟩ = some (.slice a k2.ks.length cap) := by rw [← hv']; exact hrt2.blk.at_ 0
          clear hrt2 hown htk hlen hb2 hv'
          by_cases hq : 0 < k2.ks.length
          · have d0 : decide (0 < (k2.ks.length : Int)) = true := decide_eq_true (by omega)
            have d1 : decide (0 < k2.ks.length) = true := decide_eq_true hq
            have hls := Lib.hid (rlst_any HC.out (by have := HLN.out; omega) hq)
            have hlt := lstO_lt hq
            obtain ⟨g, rfl, c0, c1, c2⟩ := hcell _ hlt
            have hgl0 : g < wr.heap.size := World.block_lt_of_cell? _ _ c0
            have HTS := Lib.hid (show tskO k2.ks.length k2.ks = (k2.ks.getD (lstO k2.ks) zk).t :: tskO (k2.ks.eraseIdx (lstO k2.ks)).length (k2.ks.eraseIdx (lstO k2.ks)) by rw [tskO_len, if_neg (by intro e; rw [e] at hq; exact absurd hq (by decide))])
            obtain ⟨J, hJ⟩ : ∃ J, lstO k2.ks = J := ⟨_, rfl⟩
            rw [hJ] at hls hlt c0 c1 c2 HTS
            obtain ⟨U, hU⟩ : ∃ U, k2.ks.getD J zk = U := ⟨_, rfl⟩
            rw [hU] at c0 c1 c2 HTS
            obtain ⟨n, hN⟩ : ∃ n, k2.ks.length = n := ⟨_, rfl⟩
            have HN := Lib.hid hN
            have HLT := Lib.hid hlt
            rw [hN] at hlt x0 hq d0 d1 hc
            have HX0 := Lib.hid x0
            have HCC := Lib.hid c2
            have hxl : q < wr.heap.size := HC.out.blk.lt
            have hm : n ≤ 1000 := by have := HLN.out; omega
            have hJ1000 : J ≤ 1000 := by omega
            have j0 : (0 : Int) ≤ (J : Int) := by omega
            have j1 : (J : Int) < (n : Int) := by omega
            clear hcell c0 c1 hJ hU hN
            go_wp2_with fail
            (with_reducible refine hls.out.mono ?_)
            rintro e w4 ⟨rfl, hb⟩
            have HB4 := Lib.hid hb
            have O1 := Lib.hid (show OwnI (w4.alloc (.cells #[.int .i64 U.t] 3)) w.heap.size (.slice ua out.length uc) out from (HO.out.below hb).alloc _)
            have hn9 : out.length + 1 ≤ 1000000 := by have := HLN.out; omega
            have hbw : w.heap.size ≤ (w4.alloc (.cells #[.int .i64 U.t] 3)).heap.size := by have := HBV.out.size; have := hb.size; have := (below_one w4 (.cells #[.int .i64 U.t] 3)).size; omega
            clear x0 c2 hb hls
            have x0 := (HB4.out.cell (p := ⟨q, 0, none⟩) hxl).trans HX0.out
            have c2 := (HB4.out.cell (p := ⟨g, J * 3 + 2, none⟩) hgl0).trans HCC.out
            go_wp2_with
              (at_builtin
               refine wpList_appI rfl _ _ rfl rfl O1.out (ns := [U.t]) rfl rfl (ints_new w4 [U.t]) hn9 hbw ?_
               intro v8 w1 hown hgr
               have hf8 : Fr (Value.slice ua out.length uc).ownBlock.toList w4 w1 := ((Fr.refl _ w4).alloc _).trans ⟨hgr.os, hgr.tape, hgr.output, hgr.size, fun b hb hn => hgr.block b hb (fun e => hn (by rw [Option.mem_toList]; exact e.symm))⟩
               have hct1 := HC.out.below HB4.out
               have hct8 : RT w1 w.heap.size q v2 k2 := ⟨hct1.blk.of_same (hf8.block q hct1.blk.lt (fun hm => by
                 rw [Option.mem_toList] at hm
                 exact own_apart (HO.out.below HB4.out) hct1.blk (by decide) q hm rfl)), hct1.own.same (fun b hb => hf8.block b (hct1.own.lt b hb).2 (fun hm => by
                 rw [Option.mem_toList] at hm
                 obtain ⟨cur, hc⟩ := hct1.own.ty b hb
                 exact own_apart (HO.out.below HB4.out) hc (by decide) b hm rfl)), hct1.hx⟩
               have g0 : w1.cell? ⟨g, J * 3 + 2, none⟩ = some (.int .i64 U.t) := by
                 rw [← c2]
                 have hgo := (HC.out.below HB4.out).own.ty g (by rw [HVF.out]; rfl)
                 obtain ⟨cur, hc⟩ := hgo
                 exact World.cell?_of_block (hf8.block g hc.lt (fun hm => by
                   rw [Option.mem_toList] at hm
                   exact own_apart (HO.out.below HB4.out) hc (by decide) g hm rfl))
               have HB8 := Lib.hid (show Below w.heap.size w w1 from (HBV.out.trans (HB4.out.mono HBV.out.size)).trans (hf8.below (Nat.le_trans HBV.out.size HB4.out.size) (fun b hb => by
                 rw [Option.mem_toList] at hb
                 exact ((HO.out.below HB4.out).lt b hb).1)))
               have HO8 := Lib.hid hown
               have HR0 := Lib.hid hct8
               obtain ⟨u8, uc8, rfl, _⟩ := hown.form
               have y0 : w1.cell? ⟨q, 0, none⟩ = some (.slice (some ⟨g, 0, none⟩) n cap) := by have := hct8.blk.at_ 0; rw [HVF.out, HN.out] at this; exact this
               clear hf8 hct1 hct8 hown hgr x0 c2)
            obtain ⟨x0, _⟩ : _ ∧ True := ⟨y0, trivial⟩
            clear y0
            have HR := Lib.hid HR0.out
            rw [HVF.out, HN.out] at HR
            obtain ⟨k, hkk⟩ : ∃ k, k2 = k := ⟨_, rfl⟩
            rw [hkk] at HR HN HTS HLN HT HLT
            clear hkk HC HR0 HVF
            have HB1 := Lib.hid HB8.out.size
            have xlt : q < w1.heap.size := HR.out.blk.lt
            have hS0 : Below w1.heap.size w1 w1.drew := below_drew (Below.refl _ _)
            have hgl : g < w1.heap.size := World.block_lt_of_cell? _ _ g0
            obtain ⟨J1, hJ1n⟩ : ∃ J1 : Nat, J + 1 = J1 := ⟨_, rfl⟩
            have hJ1 : (J : Int) + 1 = (J1 : Int) := by omega
            have hic : J ≤ cap := by omega
            have hjc : J1 ≤ cap := by omega
            have hjn : J1 ≤ n := by omega
            have hJm : J ≤ 1000 := by omega
            have HCE := Lib.hid (show ∀ u : World, Below w1.heap.size w1 u → ∀ q, q < n * 3 → u.cell? ⟨g, q, none⟩ = (k.ks.map kcells).flatten[q]? from fun u hu q hq => (hu.cell (p := ⟨g, q, none⟩) hgl).trans (HR.out.cells q hq))
            have hfl : (k.ks.map kcells).flatten.length = n * 3 := by rw [(rowsK_keys k.ks).len, List.length_map, HN.out]
            obtain ⟨A, hA, hsrc⟩ : ∃ A : Addr, (if cap = J1 then some (⟨g, 0, none⟩ : Addr) else some ⟨g, J1 * 3, none⟩) = some A ∧ Hid (∀ u : World, Below w1.heap.size w1 u → ∀ j t, ((k.ks.drop J1).map kcells).flatten[j]? = some t → u.cell? (A.add j) = some t) := by
              have hdl : ((k.ks.drop J1).map kcells).flatten.length = (n - J1) * 3 := by rw [(rowsK_keys _).len, List.length_map, List.length_drop, HN.out]
              by_cases hq : cap = J1
              · refine ⟨⟨g, 0, none⟩, by simp [hq], fun u hu j t hj => ?_⟩
                have := (List.getElem?_eq_some_iff.1 hj).1
                rw [hdl] at this
                omega
              · refine ⟨⟨g, J1 * 3, none⟩, by simp [hq], fun u hu j t hj => ?_⟩
                have hj2 := (List.getElem?_eq_some_iff.1 hj).1
                rw [hdl] at hj2
                rw [Addr.add_lit, HCE.out u hu _ (by rw [Nat.sub_mul] at hj2; omega), ← hj]
                have e : (k.ks.map kcells).flatten = ((k.ks.take J1).map kcells).flatten ++ ((k.ks.drop J1).map kcells).flatten := by rw [← List.flatten_append, ← List.map_append, List.take_append_drop]
                have hl : ((k.ks.take J1).map kcells).flatten.length = J1 * 3 := by rw [(rowsK_keys _).len, List.length_map, List.length_take, HN.out, Nat.min_eq_left hjn]
                rw [e, List.getElem?_append_right (by omega), hl, Nat.add_sub_cancel_left]
            have HTK := Lib.hid (show ∀ u : World, Below w1.heap.size w1 u → ∀ ad, (some (⟨g, 0, none⟩ : Addr)) = some ad → ∀ j t, ((k.ks.take J).map kcells).flatten[j]? = some t → u.cell? (ad.add j) = some t from fun u hu ad e j t hj => by
              cases e
              have hl : ((k.ks.take J).map kcells).flatten.length = J * 3 := by rw [(rowsK_keys _).len, List.length_map, List.length_take, HN.out, Nat.min_eq_left (by omega)]
              have hj2 := (List.getElem?_eq_some_iff.1 hj).1
              rw [hl] at hj2
              rw [Addr.add_lit, Nat.zero_add, HCE.out u hu _ (by omega), ← hj]
              have e : (k.ks.map kcells).flatten = ((k.ks.take J).map kcells).flatten ++ ((k.ks.drop J).map kcells).flatten := by rw [← List.flatten_append, ← List.map_append, List.take_append_drop]
              rw [e, List.getElem?_append_left (by omega)])
            have HTL := Lib.hid (show (k.ks.take J).length = J ∧ (k.ks.drop J1).length = n - J1 from ⟨by rw [List.length_take, HN.out, Nat.min_eq_left (by omega)], by rw [List.length_drop, HN.out]⟩)
            have HER := Lib.hid (show k.ks.take J ++ k.ks.drop J1 = k.ks.eraseIdx J by rw [← hJ1n, List.eraseIdx_eq_take_drop_succ])
            clear hfl hgl
            refine wp_region_late (S := (fun u => Below w1.heap.size w1 u)) (z := 13) (by kernel_rfl) ?_
            change wpAnyZ _ _ _ _ 13 14 #[false, false, false, false, false, false, false, false, false, false, false, false, false, false] _ (World.drew _)
            refine wpAnyZ.take (i := 1) (v := .pointer (some ⟨q, 0, none⟩)) rfl (by kernel_rfl) (by kernel_rfl) (by kernel_rfl) (by kernel_rfl) (by kernel_rfl) (fun _ _ _ h => h) (Or.inl ⟨by rfl, fun u hu => by (go_simp)⟩) hS0 ?_
            simp only [List.getElem_toArray, List.getElem_cons_succ, List.getElem_cons_zero, Act.put, List.setIfInBounds_toArray, List.set_cons_zero, List.set_cons_succ]
            refine wpAnyZ.take (i := 2) (v := .slice (some ⟨g, 0, none⟩) n cap) rfl (by kernel_rfl) (by kernel_rfl) (by kernel_rfl) (by kernel_rfl) (by kernel_rfl) (fun _ _ _ h => h) (Or.inl ⟨by rfl, fun u hu => by (have z0 := (hu.cell (p := ⟨q, 0, none⟩) xlt).trans x0; go_simp)⟩) hS0 ?_
            simp only [List.getElem_toArray, List.getElem_cons_succ, List.getElem_cons_zero, Act.put, List.setIfInBounds_toArray, List.set_cons_zero, List.set_cons_succ]
            refine wpAnyZ.take (i := 3) (v := .int .i64 (J : Int)) rfl (by kernel_rfl) (by kernel_rfl) (by kernel_rfl) (by kernel_rfl) (by kernel_rfl) (fun _ _ _ h => h) (Or.inl ⟨by rfl, fun u hu => by (go_simp)⟩) hS0 ?_
            simp only [List.getElem_toArray, List.getElem_cons_succ, List.getElem_cons_zero, Act.put, List.setIfInBounds_toArray, List.set_cons_zero, List.set_cons_succ]
            refine wpAnyZ.take (i := 4) (v := .slice (some ⟨g, 0, none⟩) J cap) rfl (by kernel_rfl) (by kernel_rfl) (by kernel_rfl) (by kernel_rfl) (by kernel_rfl) (fun _ _ _ h => h) (Or.inl ⟨by rfl, fun u hu => by (go_simp)⟩) hS0 ?_
            simp only [List.getElem_toArray, List.getElem_cons_succ, List.getElem_cons_zero, Act.put, List.setIfInBounds_toArray, List.set_cons_zero, List.set_cons_succ]
            refine wpAnyZ.take (i := 6) (v := .pointer (some ⟨q, 0, none⟩)) rfl (by kernel_rfl) (by kernel_rfl) (by kernel_rfl) (by kernel_rfl) (by kernel_rfl) (fun _ _ _ h => h) (Or.inl ⟨by rfl, fun u hu => by (go_simp)⟩) hS0 ?_
            simp only [List.getElem_toArray, List.getElem_cons_succ, List.getElem_cons_zero, Act.put, List.setIfInBounds_toArray, List.set_cons_zero, List.set_cons_succ]
            refine wpAnyZ.take (i := 7) (v := .slice (some ⟨g, 0, none⟩) n cap) rfl (by kernel_rfl) (by kernel_rfl) (by kernel_rfl) (by kernel_rfl) (by kernel_rfl) (fun _ _ _ h => h) (Or.inl ⟨by rfl, fun u hu => by (have z0 := (hu.cell (p := ⟨q, 0, none⟩) xlt).trans x0; go_simp)⟩) hS0 ?_
            simp only [List.getElem_toArray, List.getElem_cons_succ, List.getElem_cons_zero, Act.put, List.setIfInBounds_toArray, List.set_cons_zero, List.set_cons_succ]
            refine wpAnyZ.take (i := 8) (v := .int .i64 (J : Int)) rfl (by kernel_rfl) (by kernel_rfl) (by kernel_rfl) (by kernel_rfl) (by kernel_rfl) (fun _ _ _ h => h) (Or.inl ⟨by rfl, fun u hu => by (go_simp)⟩) hS0 ?_
            simp only [List.getElem_toArray, List.getElem_cons_succ, List.getElem_cons_zero, Act.put, List.setIfInBounds_toArray, List.set_cons_zero, List.set_cons_succ]
            refine wpAnyZ.take (i := 9) (v := .int .i64 (J1 : Int)) rfl (by kernel_rfl) (by kernel_rfl) (by kernel_rfl) (by kernel_rfl) (by kernel_rfl) (fun _ _ _ h => h) (Or.inl ⟨by rfl, fun u hu => by (go_simp; exact IntWalk.i64_in _ (by omega))⟩) hS0 ?_
            simp only [List.getElem_toArray, List.getElem_cons_succ, List.getElem_cons_zero, Act.put, List.setIfInBounds_toArray, List.set_cons_zero, List.set_cons_succ]
            refine wpAnyZ.take (i := 10) (v := .slice (some A) (n - J1) (cap - J1)) rfl (by kernel_rfl) (by kernel_rfl) (by kernel_rfl) (by kernel_rfl) (by kernel_rfl) (fun _ _ _ h => h) (Or.inl ⟨by rfl, fun u hu => by (go_simp)⟩) hS0 ?_
            simp only [List.getElem_toArray, List.getElem_cons_succ, List.getElem_cons_zero, Act.put, List.setIfInBounds_toArray, List.set_cons_zero, List.set_cons_succ]
            refine wpAnyZ.ready (rs := [0]) (by kernel_rfl) (by simp) ?_
            refine AllZ.cons rfl (fun K hK => ?_) AllZ.nil
            go_simp
            have hb1 := below_one w1 (.cells #[] 68)
            have hS1 : Below w1.heap.size w1 (w1.alloc (.cells #[] 68)).drew := below_drew hb1
            have lit1 : OwnG (w1.alloc (.cells #[] 68)).drew w1.heap.size 68 3 (.slice (some ⟨w1.heap.size, 0, none⟩) 0 0) [] := (lit_own w1 68 3 (Nat.le_refl _)).same (fun _ _ => rfl)
            refine hK.out _ _ (fun _ => hS1) (fun _ => ?_)
            clear hK K
            simp only [List.setIfInBounds_toArray, List.set_cons_zero, List.set_cons_succ]
            generalize (w1.alloc (.cells #[] 68)).drew = W1 at *
            refine wpAnyZ.ready (rs := [5]) (by kernel_rfl) (by simp) ?_
            refine AllZ.cons rfl (fun K hK => ?_) AllZ.nil
            rw [if_pos (show Region.wanted _ _ = true by rfl)]
            refine wp_appQ info_rkey (by kernel_rfl) (by omega) (by omega) Try.underlying62 (.tmp 49) (.tmp 53) rfl rfl lit1 rfl (by rw [List.length_map]; exact HTL.out.1) (rowsK_keys (k.ks.take J)) (fun ad e j u hj => HTK.out _ hS1 ad e j u hj) (fun e => by cases e) (by simp; omega) hS1.size ?_
            intro v2 W2 hown2 hg2
            have hS2 := grown_below lit1 hS1 (Nat.le_refl _) hg2
            obtain ⟨va2, vc2, hv2, _⟩ := hown2.form
            rw [show ([] ++ (k.ks.take J).map kcells : List (List Value)).length = J by rw [List.nil_append, List.length_map]; exact HTL.out.1] at hv2
            subst hv2
            refine hK.out _ _ (fun _ => hS2) (fun _ => ?_)
            clear hK K
            simp only [List.setIfInBounds_toArray, List.set_cons_zero, List.set_cons_succ]
            refine wpAnyZ.ready (rs := [11]) (by kernel_rfl) (by simp) ?_
            refine AllZ.cons rfl (fun K hK => ?_) AllZ.nil
            rw [if_pos (show Region.wanted _ _ = true by rfl)]
            refine wp_appQ info_rkey (by kernel_rfl) (by omega) (by omega) Try.underlying62 (.tmp 54) (.tmp 59) rfl rfl hown2 rfl (by rw [List.length_map]; exact HTL.out.2) (rowsK_keys (k.ks.drop J1)) (fun ad e j u hj => by cases e; exact hsrc.out _ hS2 j u hj) (fun e => by cases e) (by have := HTL.out.1; simp only [List.nil_append, List.length_map]; omega) hS2.size ?_
            intro v3 W3 hown3 hg3
            have hS3 := grown_below hown2 hS2 (Nat.le_refl _) hg3
            obtain ⟨va3, vc3, hv3, _⟩ := hown3.form
            rw [show ([] ++ (k.ks.take J).map kcells ++ (k.ks.drop J1).map kcells : List (List Value)).length = n - 1 by rw [List.nil_append, List.length_append, List.length_map, List.length_map, HTL.out.1, HTL.out.2]; omega] at hv3
            subst hv3
            refine hK.out _ _ (fun _ => hS3) (fun _ => ?_)
            clear hK K
            simp only [List.setIfInBounds_toArray, List.set_cons_zero, List.set_cons_succ]
            refine wpAnyZ.ready (rs := [12]) (by kernel_rfl) (by simp) ?_
            refine AllZ.cons rfl (fun K hK => ?_) AllZ.nil
            go_simp
            refine hK.out _ _ (fun _ => hS3) (fun _ => ?_)
            clear hK K
            simp only [List.setIfInBounds_toArray, List.set_cons_zero, List.set_cons_succ]
            obtain ⟨hch, k0, kf⟩ := HR.out.put (ks' := k.ks.eraseIdx J) hS3 (by rw [← HER.out, List.map_append]; simpa using hown3) HB1.out
            have HCH := Lib.hid hch
            clear hch
            refine wpAnyZ.ready (rs := [13]) (by kernel_rfl) (by simp) ?_
            refine AllZ.cons rfl (fun K hK => ?_) AllZ.nil
            go_simp
            refine hK.out _ _ (fun h => absurd rfl h) (fun _ => ?_)
            clear hK K
            simp only [List.setIfInBounds_toArray, List.set_cons_zero, List.set_cons_succ]
            refine wpAnyZ.done (by kernel_rfl) ?_ _
            go_roundw
            case rel =>
              obtain ⟨v9, q1, q2⟩ := HCH.out
              (repeat apply Exists.intro)
              refine ⟨⟨v9, ⟨k.ks.eraseIdx J, k.n⟩, out ++ [U.t], q1, ?_, ?_, ?_, HB8.out.trans (q2.below HB8.out.size (fun b hb => by simp at hb; have := HR.out.hx; omega))⟩, rfl⟩
              · have := own_keep HO8.out (fun b hb => q2.block b (HO8.out.lt b hb).2 (by
                  simpa using own_apart HO8.out HR.out.blk (by decide) b hb))
                unfold OwnI
                simp only [List.length_append, List.length_singleton] at this ⊢
                exact this
              · rw [← HT.out, HTS.out, List.append_assoc]
                rfl
              · have := HLN.out
                have hle : (k.ks.eraseIdx J).length = k.ks.length - 1 := List.length_eraseIdx_of_lt HLT.out
                show (k.ks.eraseIdx J).length + (out ++ [U.t]).length ≤ 1000
                rw [hle, List.length_append, List.length_singleton]
                have := HLT.out
                omega
            case measure =>
              have e2 := HX0.out
              have e1 := fun v => World.cell?_setCell_same _ _ v k0
              simp only [e1, e2]
              omega
          · have d0 : decide (0 < (k2.ks.length : Int)) = false := decide_eq_false (by omega)
            have d1 : decide (0 < k2.ks.length) = false := decide_eq_false hq
            have hz : k2.ks = [] := List.eq_nil_of_length_eq_zero (by omega)
            go_wp2
            go_ret
            have ht := HT.out
            rw [hz] at ht
            refine ⟨_, TT, rfl, ?_, .inr ⟨H0.out, _, _, HF.out, HTT.out.symm⟩, HBV.out⟩
            rw [← ht]
            simpa [tskO] using HO.out
end Go.Proofs.Ytpmdmeolehabjaa
