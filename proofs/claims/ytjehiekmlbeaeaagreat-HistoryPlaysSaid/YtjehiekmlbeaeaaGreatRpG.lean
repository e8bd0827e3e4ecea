/-
  Stage 11: the reference's Play.
-/
import Derived.Test.YtjehiekmlbeaeaaGreatMgBT
import Derived.Test.YtjehiekmlbeaeaaGreatMgAW
import Derived.Test.YtjehiekmlbeaeaaGreatMgBA
import Derived.LoopTactic
namespace Go.Proofs.YtjehiekmlbeaeaaGreat
open Go Go.RowKit Go.Shelf
set_option linter.unusedSimpArgs false
set_option linter.unusedVariables false
/-- What Play needs of its arguments. -/
structure RlyIn (w : World) (a b : Option Addr) (N M : Nat) (plan : List (List ActR)) (picks : List Int) (n : Nat) : Prop where
  pl : InPl w a plan
  ln : plan.length = N
  hN : N ≤ 900000
  ps : InInts w b M picks
  hM : M ≤ 190000
  pi : PlanIn plan
  pr : ∀ i, i < M → -9223372036854775808 ≤ picks.getD i 0 ∧ picks.getD i 0 ≤ 9223372036854775807
  td : M + (PlS.first (St.new n) plan).todo ≤ 190000
  ct : (PlS.first (St.new n) plan).cnt ≤ 900000
theorem drw_emod (d n : Int) (h : 0 < n) : drw d n = d.emod n := by
  have hd := Int.tmod_eq_emod (a := d) (b := n)
  by_cases h1 : d.tmod n < 0
  · rw [drw_neg d n (by omega) h1]
    rw [hd] at h1 ⊢
    have h2 := Int.emod_nonneg d (show n ≠ 0 by omega)
    have h3 : (n.natAbs : Int) = n := by omega
    show _ = d % n
    split at h1
    · rename_i h4
      rw [if_pos h4]
      omega
    · rename_i h4
      rw [if_neg h4]
      omega
  · rw [drw_pos d n (by omega) h1]
    rw [hd] at h1 ⊢
    have h2 := Int.emod_lt_of_pos d h
    have h3 : (n.natAbs : Int) = n := by omega
    show _ = d % n
    split at h1
    · rename_i h4
      rw [if_pos h4]
      omega
    · rename_i h4
      rw [if_neg h4]
      omega
set_option maxRecDepth 100000 in
set_option maxHeartbeats 8000000 in
theorem rplay_any {w : World} {a b : Option Addr} {N M c d C : Nat} {z : Int} {plan : List (List ActR)} {picks : List Int} (h : RlyIn w a b N M plan picks (sizeS (2 + C))) (hC : min (max z 1) 64 = (C : Int)) :
    Calls Tryz.prog 29 #[.int .i64 z, .slice a N c, .slice b M d] w fun e w' => ∃ v r, e = .returned v ∧ OwnG w' w.heap.size 80 6 v (r.map opL) ∧ Plays (St.new (sizeS (2 + C))) C plan picks r ∧ Below w.heap.size w w' := by
  have HO := Lib.hid h
  have hC2 : (C : Int) ≤ 100 := by omega
  have HC := Lib.hid hC2
  have hmm : max 1 (min z 64) = (C : Int) := by omega
  have hNi : (N : Int) ≤ 900000 := by have := h.hN; omega
  have hMi : (M : Int) ≤ 900000 := by have := h.hM; omega
  have hpl := h.ln
  clear h
  go_enter Tryz.func29, Tryz.ntmps29
  by_cases h0 : N = 0
  case pos =>
    subst h0
    have HR := Lib.hid (show Plays (St.new (sizeS (2 + C))) C plan picks [] from by
      unfold Plays
      rw [if_pos (List.eq_nil_of_length_eq_zero hpl)])
    clear hpl
    have hd : decide ((0 : Int) = 0) = true := by decide
    go_wp2_with fail
    go_ret
    exact ⟨_, rfl, [], OwnG.nil .., HR.out, Below.refl _ _⟩
  have hz : ¬ ((N : Int) = 0) := by omega
  have hd : decide ((N : Int) = 0) = false := by simp; omega
  have HP := Lib.hid (show 0 < N by omega)
  go_upto_region 4 with fail
  have HB := Lib.hid (below_one w (.cells (qcells 0 1 2 C) 91))
  have HQ := Lib.hid (Blk.made w 91 (qcells 0 1 2 C))
  have hqs := Lib.hid (show w.heap.size < (w.alloc (.cells (qcells 0 1 2 C) 91)).heap.size by simp)
  generalize w.alloc (.cells (qcells 0 1 2 C) 91) = w1 at *
  obtain ⟨qb, hqb⟩ : ∃ qb, w.heap.size = qb := ⟨_, rfl⟩
  rw [hqb] at HQ ⊢
  clear hqb
  have c3 : w1.cell? ⟨qb, 3, none⟩ = some (.int .i64 C) := HQ.out.at_ 3
  have hwr : IntKind.i64.wrap (2 + (C : Int)) = 2 + C := by rw [IntKind.wrap_i64]; omega
  go_wp2_with fail
  (with_reducible refine (bare_any (2 + C) _).mono ?_)
  rintro e w2 ⟨p, g, cap, rfl, he, hb⟩
  have HG := Lib.hid (show BR w w2 p C qb 0 (sizeS (2 + C)) plan [] (.slice none 0 0) from
    ⟨⟨_, he.low (Nat.le_of_lt hqs.out) (W0 := w) rfl ⟨prgs_nil _ _ _, tris_nil _ _ _⟩ (HB.out.trans (hb.mono (Nat.le_of_lt hqs.out)))⟩, HQ.out.below hb, OwnG.nil .., rfl, fun j hj => absurd hj (by omega), HB.out.trans (hb.mono (Nat.le_of_lt hqs.out))⟩)
  clear he hb c3 hwr HB HQ hqs w1 hmm hz hd h0
  go_wp2_with fail
  go_loopw [9, 10] (fun v x wr => ∃ (j : Nat) (V : List Value), x = .int .i64 j ∧ j ≤ N ∧ BR w wr p C qb j (sizeS (2 + C)) plan V v) (fun _ x _ => N - (intOf x).toNat)
  case atStart => exact ⟨0, [], rfl, by omega, HG.out⟩
  case round =>
    clear HG
    obtain ⟨j, V, rfl, hj, hG⟩ := hrel
    have HG := Lib.hid hG
    clear hG
    by_cases hlt : j < N
    case neg =>
      have hjN : j = N := by omega
      subst hjN
      obtain ⟨bp, pc, rfl, hg⟩ := HG.out.rg hpl HP.out (first_ok _ HO.out.pi) HO.out.ct
      have HR := Lib.hid hg
      clear hg HG
      obtain ⟨S0, hS0⟩ : ∃ S, PlS.first (St.new (sizeS (2 + C))) plan = S := ⟨_, rfl⟩
      have HT := Lib.hid (show S0.now = 0 ∧ M + S0.todo ≤ 190000 from by rw [← hS0]; exact ⟨rfl, HO.out.td⟩)
      have HS1 := Lib.hid (show S0.out = [] from by rw [← hS0]; rfl)
      rw [hS0] at HR
      have HS0 := Lib.hid hS0
      clear hS0
      have hf2 : decide ((j : Int) < (j : Int)) = false := by simp
      go_wp2_with fail
      clear hf2
      go_loopw [13, 14] (fun ov x wy => ∃ k : Nat, x = .int .i64 k ∧ k ≤ M ∧ RG w wy p bp j C qb ov (picksP C j (picks.take k) S0) ∧ (picksP C j (picks.take k) S0).now = k ∧ (picksP C j (picks.take k) S0).todo + M ≤ 190000) (fun _ x _ => M - (intOf x).toNat)
      case atStart => exact ⟨0, rfl, by omega, HR.out, HT.out.1, by
        show S0.todo + M ≤ 190000
        have := HT.out.2
        omega⟩
      case round =>
        obtain ⟨k, rfl, hk, hg, hnw, htd⟩ := hrel
        obtain ⟨S, hS⟩ : ∃ S, picksP C j (picks.take k) S0 = S := ⟨_, rfl⟩
        rw [hS] at hg hnw htd
        have HG := Lib.hid hg
        have HN := Lib.hid (And.intro hnw htd)
        have HSS := Lib.hid hS
        clear hg hnw htd hS
        by_cases hlt : k < M
        case neg =>
          have hkM : k = M := by omega
          subst hkM
          have hf2 : decide ((k : Int) < (k : Int)) = false := by simp
          have HS2 := Lib.hid (show picksP C j picks S0 = S by rw [← HSS.out, List.take_of_length_le (by rw [HO.out.ps.1]; exact Nat.le_refl _)])
          clear HSS
          go_wp2_with fail
          clear hf2
          go_loopw [13, 14, 18] (fun ov t x wy => ∃ (i : Nat) (T : PlS), x = .int .i64 i ∧ i ≤ j ∧ t = .int .i64 T.now ∧ RG w wy p bp j C qb ov T ∧ T.now + T.todo ≤ 190000 ∧ ∀ r, Ends C i T r → Ends C 0 S r) (fun _ _ x _ => j - (intOf x).toNat)
          case atStart => exact ⟨0, S, rfl, by omega, by rw [HN.out.1], HG.out, by have h1 := HN.out.1; have h2 := HN.out.2; omega, fun r hr => hr⟩
          case round =>
            obtain ⟨i, T, rfl, hi, rfl, hg, hnw, hen⟩ := hrel
            have HG2 := Lib.hid (And.intro hg (And.intro hnw hen))
            clear hg hnw hen
            by_cases hil : i < j
            case neg =>
              have hiN : i = j := by omega
              subst hiN
              have hf3 : decide ((i : Int) < (i : Int)) = false := by simp
              go_wp2_with fail
              go_ret
              refine ⟨_, T.out, rfl, HG2.out.1.out, ?_, HG2.out.1.gr.b⟩
              unfold Plays
              rw [if_neg (fun e => by have h1 := HO.out.ln; rw [e] at h1; have h2 := HP.out; simp at h1; omega)]
              rw [HO.out.ln, HS0.out, HS2.out]
              exact HG2.out.2.2 _ (Ends.over (by rw [HG2.out.1.len]; exact Nat.le_refl _))
            have hil2 : (i : Int) < (j : Int) := by omega
            have hi0 : (0 : Int) ≤ (i : Int) := by omega
            go_wp2_with fail
            go_loopw [13, 14] (fun ov t wz => ∃ U : PlS, t = .int .i64 U.now ∧ RG w wz p bp j C qb ov U ∧ U.now + U.todo ≤ 190000 ∧ ∀ r, Ends C i U r → Ends C i T r) (fun _ t _ => 190000 - (intOf t).toNat)
            case atStart => exact ⟨T, rfl, HG2.out.1, HG2.out.2.1, fun r hr => hr⟩
            case round =>
              obtain ⟨U, rfl, hgU, hnU, heU⟩ := hrel
              have HGU := Lib.hid (And.intro hgU (And.intro hnU heU))
              obtain ⟨aU, qU, rowU, hgr⟩ := hgU.gr
              have hpl3 := hgr.pl i hil
              obtain ⟨xa, xc, hx0, hxc⟩ := hpl3.ac.form
              obtain ⟨z4, hz4⟩ := hpl3.nt.2.2.2
              have c0 := hgr.pb.cell hil 0 (by omega)
              have c4 := hgr.pb.cell hil 4 (by omega)
              rw [hx0, Nat.add_zero] at c0
              rw [hz4] at c4
              obtain ⟨n5, hn5⟩ : ∃ n, (U.P.getD i .no).acts.length = n := ⟨_, rfl⟩
              have HZ4 := Lib.hid (show ((U.P.getD i .no).x.m.idle = true → z4 = -1) ∧ ((U.P.getD i .no).x.m.idle = false → 0 ≤ z4) ∧ (U.P.getD i .no).acts.length = n5 from by
                refine ⟨fun e => ?_, fun e => ?_, hn5⟩
                · have := hpl3.off (Mach.idle_iff.1 e)
                  rw [hz4] at this
                  simpa using this
                · obtain ⟨_, _, _, h4, h5⟩ := hpl3.on (Mach.idle_not e)
                  rw [hz4] at h4
                  simp only [Value.int.injEq, true_and] at h4
                  omega)
              rw [hn5] at c0
              have hon : ((⟨bp, 0, none⟩ : Addr).add (i * 5)) = ⟨bp, i * 5, none⟩ := by
                unfold Addr.add
                split
                · rename_i h0
                  rw [h0]
                · simp
              clear hgU hnU heU hgr hpl3 hx0 hxc hz4 hn5
              obtain ⟨bz, hbz⟩ : ∃ bz, (U.P.getD i .no).busy = bz := ⟨_, rfl⟩
              have HZ := Lib.hid hbz
              clear hbz
              have hnb : (U.now : Int) ≤ 190000 := by have := HGU.out.2.1; omega
              go_upto_region 27 with fail
              go_cut [122] from 108 to 121 (fun v wx => v = .bool bz ∧ wx = wr)
              case first =>
                have hb2 := HZ.out
                unfold Plr.busy at hb2
                rw [HZ4.out.2.2] at hb2
                cases hid : (U.P.getD i .no).x.m.idle with
                | false =>
                  have hz := HZ4.out.2.1 hid
                  rw [hid] at hb2
                  have hb3 : bz = true := by rw [← hb2]; rfl
                  subst hb3
                  clear hb2 hid
                  go_wp2_with fail
                  go_meet
                  case rel => exact ⟨rfl, rfl⟩
                | true =>
                  have hz := HZ4.out.1 hid
                  rw [hid] at hb2
                  have hb3 : decide (0 < n5) = bz := by rw [← hb2]; rfl
                  have hb4 : decide ((0 : Int) < (n5 : Int)) = bz := by rw [← hb3]; simp
                  have HB4 := Lib.hid (And.intro hb3 hb4)
                  subst hz
                  clear hb2 hid hb3 hb4
                  go_wp2_with fail
                  go_meet
                  case rel => exact ⟨by rw [← HB4.out.1], rfl⟩
              case rest =>
              obtain ⟨rfl, hw⟩ := hcut
              rw [hw]
              clear hw c0 c4
              cases bz with
              | false =>
                go_wp2_with fail
                go_roundw
                case rel => exact ⟨i + 1, U, by rfl, by omega, rfl, HGU.out.1, HGU.out.2.1, fun r hr => HG2.out.2.2 r (HGU.out.2.2 r (Ends.rest (by rw [HGU.out.1.len]; exact hil) HZ.out hr))⟩
                case measure => simp only [intOf]; omega
              | true =>
                have hlU : i < U.P.length := by rw [HGU.out.1.len]; exact hil
                have HSM := Lib.hid (And.intro (pick_ok (C := (C : Int)) HGU.out.1.ok hlU) ((pick_sum (C := (C : Int)) HGU.out.1.ok hlU).2.2 HZ.out))
                have HEN := Lib.hid (fun (r : List OpR) hr => HGU.out.2.2 r (Ends.step hlU HZ.out hr))
                clear hlU
                go_upto_region 28 with fail
                go_cut [19, 20] from 123 to 133 (fun sv bv wx => ∃ (rb : Nat) (bb : Bool) (r : OpR), sv = .pointer (some ⟨rb, 0, none⟩) ∧ bv = .bool bb ∧ Blk wx rb 80 (opC r) ∧ RH w wx p bp j C qb u13 U.out (pickP C i U) ∧ (pickP C i U).out = U.out ++ (if bb = true then [r] else []))
                case first =>
                  have HD := Lib.hid (show Blk wr.drew qb 91 (qcells 0 1 2 C) from HGU.out.1.q)
                  have HG1 := Lib.hid (HGU.out.1.below (below_drew (Below.refl _ _)))
                  refine wp_region_held_drew (S := fun u => Blk u qb 91 (qcells 0 1 2 C)) (by kernel_rfl) HD.out (fun _ => ?_)
                  change wpAnyH _ _ _ _ _ 14 #[false, false, false, false, false, false, false, false, false, false, false, false, false, false] _ (World.drew _)
                  generalize wr.drew = W at *
                  refine wpAnyH_take (i := 0) (v := .pointer (some ⟨p, 0, none⟩)) rfl (by kernel_rfl) (by kernel_rfl) (by kernel_rfl) (fun _ _ _ h => h) (Or.inl ⟨by rfl, fun u hu => by (go_simp)⟩) HD.out ?_
                  simp only [List.getElem_toArray, List.getElem_cons_succ, List.getElem_cons_zero, Act.put, List.setIfInBounds_toArray, List.set_cons_zero, List.set_cons_succ]
                  refine wpAnyH_take (i := 1) (v := qv 0 1 2 C) rfl (by kernel_rfl) (by kernel_rfl) (by kernel_rfl) (fun _ _ _ h => h) (yields_row (by kernel_rfl) _ _ rfl qb (by kernel_rfl) 91 (qcells 0 1 2 C) (fun u hu => hu) _ Tryz.underlying91 rfl (by kernel_rfl)) HD.out ?_
                  simp only [List.getElem_toArray, List.getElem_cons_succ, List.getElem_cons_zero, Act.put, List.setIfInBounds_toArray, List.set_cons_zero, List.set_cons_succ]
                  refine wpAnyH_take (i := 2) (v := .slice (some ⟨bp, 0, none⟩) j pc) rfl (by kernel_rfl) (by kernel_rfl) (by kernel_rfl) (fun _ _ _ h => h) (Or.inl ⟨by rfl, fun u hu => by (go_simp)⟩) HD.out ?_
                  simp only [List.getElem_toArray, List.getElem_cons_succ, List.getElem_cons_zero, Act.put, List.setIfInBounds_toArray, List.set_cons_zero, List.set_cons_succ]
                  refine wpAnyH_take (i := 3) (v := .int .i64 i) rfl (by kernel_rfl) (by kernel_rfl) (by kernel_rfl) (fun _ _ _ h => h) (Or.inl ⟨by rfl, fun u hu => by (go_simp)⟩) HD.out ?_
                  simp only [List.getElem_toArray, List.getElem_cons_succ, List.getElem_cons_zero, Act.put, List.setIfInBounds_toArray, List.set_cons_zero, List.set_cons_succ]
                  refine wpAnyH_take (i := 4) (v := .pointer (some ⟨bp, i * 5, none⟩)) rfl (by kernel_rfl) (by kernel_rfl) (by kernel_rfl) (fun _ _ _ h => h) (Or.inl ⟨by rfl, fun u hu => by (go_simp; try rw [hon])⟩) HD.out ?_
                  simp only [List.getElem_toArray, List.getElem_cons_succ, List.getElem_cons_zero, Act.put, List.setIfInBounds_toArray, List.set_cons_zero, List.set_cons_succ]
                  refine wpAnyH_take (i := 5) (v := .int .i64 i) rfl (by kernel_rfl) (by kernel_rfl) (by kernel_rfl) (fun _ _ _ h => h) (Or.inl ⟨by rfl, fun u hu => by (go_simp)⟩) HD.out ?_
                  simp only [List.getElem_toArray, List.getElem_cons_succ, List.getElem_cons_zero, Act.put, List.setIfInBounds_toArray, List.set_cons_zero, List.set_cons_succ]
                  refine wpAnyH_take (i := 6) (v := .int .i64 U.now) rfl (by kernel_rfl) (by kernel_rfl) (by kernel_rfl) (fun _ _ _ h => h) (Or.inl ⟨by rfl, fun u hu => by (go_simp)⟩) HD.out ?_
                  simp only [List.getElem_toArray, List.getElem_cons_succ, List.getElem_cons_zero, Act.put, List.setIfInBounds_toArray, List.set_cons_zero, List.set_cons_succ]
                  refine wpAnyH_ready (rs := [7, 11]) (by kernel_rfl) (by simp) ?_
                  refine AllReadyH.cons rfl (fun KK hK => ?_) (AllReadyH.cons rfl (fun KK hK => ?_) AllReadyH.nil)
                  · go_simp
                    go_at_call 68
                    have hact := HG1.out.act (i := i) (by omega) HC.out
                    (with_reducible refine hact.mono ?_)
                    rintro e u1 ⟨bb, r, rfl, hrh, hout, _⟩
                    have HRH := Lib.hid hrh
                    have HOUT := Lib.hid hout
                    clear hrh hout hact
                    refine hK.out _ _ HRH.out.q (fun _ => ?_)
                    clear hK KK
                    simp only [List.setIfInBounds_toArray, List.set_cons_zero, List.set_cons_succ]
                    refine wpAnyH_take (i := 8) (v := .tuple #[.agg (opC r), .bool bb]) rfl (by kernel_rfl) (by kernel_rfl) (by kernel_rfl) (fun _ _ _ h => h) (Or.inl ⟨by rfl, fun u hu => by (go_simp)⟩) HRH.out.q ?_
                    simp only [List.getElem_toArray, List.getElem_cons_succ, List.getElem_cons_zero, Act.put, List.setIfInBounds_toArray, List.set_cons_zero, List.set_cons_succ]
                    refine wpAnyH_take (i := 9) (v := .agg (opC r)) rfl (by kernel_rfl) (by kernel_rfl) (by kernel_rfl) (fun _ _ _ h => h) (Or.inl ⟨by rfl, fun u hu => by (go_simp)⟩) HRH.out.q ?_
                    simp only [List.getElem_toArray, List.getElem_cons_succ, List.getElem_cons_zero, Act.put, List.setIfInBounds_toArray, List.set_cons_zero, List.set_cons_succ]
                    refine wpAnyH_take (i := 10) (v := .bool bb) rfl (by kernel_rfl) (by kernel_rfl) (by kernel_rfl) (fun _ _ _ h => h) (Or.inl ⟨by rfl, fun u hu => by (go_simp)⟩) HRH.out.q ?_
                    simp only [List.getElem_toArray, List.getElem_cons_succ, List.getElem_cons_zero, Act.put, List.setIfInBounds_toArray, List.set_cons_zero, List.set_cons_succ]
                    refine wpAnyH_ready (rs := [11]) (by kernel_rfl) (by simp) ?_
                    refine AllReadyH.cons rfl (fun KK hK => ?_) AllReadyH.nil
                    go_simp
                    have HRH2 := Lib.hid (HRH.out.below (below_one u1 (.cells op0 80)))
                    have HB9 := Lib.hid (Blk.made u1 80 op0)
                    have HL9 := Lib.hid (show w.heap.size ≤ u1.heap.size from HRH.out.gr.b.size)
                    have HN9 := Lib.hid (fun (k : Nat) (hk : u13.ownBlock = some k) => Nat.ne_of_lt (HRH.out.out.lt k hk).2)
                    refine hK.out _ _ HRH2.out.q (fun _ => ?_)
                    clear hK KK
                    simp only [List.setIfInBounds_toArray, List.set_cons_zero, List.set_cons_succ]
                    generalize u1.alloc (.cells op0 80) = W9 at *
                    generalize u1.heap.size = rb at *
                    refine wpAnyH_ready (rs := [12]) (by kernel_rfl) (by simp) ?_
                    refine AllReadyH.cons rfl (fun KK hK => ?_) AllReadyH.nil
                    have HR9 := Lib.hid (show RH w (W9.setRow rb (opC r)) p bp j C qb u13 U.out (pickP C i U) from HRH2.out.row HB9.out HL9.out HN9.out (opC r))
                    have HB0 := Lib.hid (show Blk (W9.setRow rb (opC r)) rb 80 (opC r) from setRow_heap W9 rb op0 _ 80 (0, 0) HB9.out)
                    refine wp_store_row 80 (.tmp 19) (.tmp 132) rfl rb (opC r) rfl rfl 80 op0 HB9.out (by kernel_rfl) rfl (by kernel_rfl) ?_
                    refine hK.out _ _ HR9.out.q (fun _ => ?_)
                    clear hK KK
                    simp only [List.setIfInBounds_toArray, List.set_cons_zero, List.set_cons_succ]
                    refine wpAnyH_take (i := 13) (v := .bool bb) rfl (by kernel_rfl) (by kernel_rfl) (by kernel_rfl) (fun _ _ _ h => h) (Or.inl ⟨by rfl, fun u hu => by (go_simp)⟩) HR9.out.q ?_
                    simp only [List.getElem_toArray, List.getElem_cons_succ, List.getElem_cons_zero, Act.put, List.setIfInBounds_toArray, List.set_cons_zero, List.set_cons_succ]
                    refine wpAnyH_done (by kernel_rfl) ?_ _
                    go_wp2_with fail
                    go_meet
                    case rel => exact ⟨rb, bb, r, rfl, rfl, HB0.out, HR9.out, HOUT.out⟩
                  · go_simp
                    have HG2 := Lib.hid (HG1.out.below (below_one W (.cells op0 80)))
                    have HBa := Lib.hid (Blk.made W 80 op0)
                    have HL9 := Lib.hid (show w.heap.size ≤ W.heap.size from HG1.out.gr.b.size)
                    have HN9 := Lib.hid (fun (k : Nat) (hk : u13.ownBlock = some k) => Nat.ne_of_lt (HG1.out.out.lt k hk).2)
                    refine hK.out _ _ HG2.out.q (fun _ => ?_)
                    clear hK KK
                    simp only [List.setIfInBounds_toArray, List.set_cons_zero, List.set_cons_succ]
                    generalize W.alloc (.cells op0 80) = W8 at *
                    generalize W.heap.size = rb at *
                    refine wpAnyH_ready (rs := [7]) (by kernel_rfl) (by simp) ?_
                    refine AllReadyH.cons rfl (fun KK hK => ?_) AllReadyH.nil
                    go_simp
                    go_at_call 68
                    have hact := HG2.out.act (i := i) (by omega) HC.out
                    have hact8 := hact
                    (with_reducible refine (hact8).mono ?_)
                    rintro e u1 ⟨bb, r, rfl, hrh, hout, hkp⟩
                    have HRH := Lib.hid hrh
                    have HOUT := Lib.hid hout
                    clear hrh hout hact
                    refine hK.out _ _ HRH.out.q (fun _ => ?_)
                    clear hK KK
                    simp only [List.setIfInBounds_toArray, List.set_cons_zero, List.set_cons_succ]
                    refine wpAnyH_take (i := 8) (v := .tuple #[.agg (opC r), .bool bb]) rfl (by kernel_rfl) (by kernel_rfl) (by kernel_rfl) (fun _ _ _ h => h) (Or.inl ⟨by rfl, fun u hu => by (go_simp)⟩) HRH.out.q ?_
                    simp only [List.getElem_toArray, List.getElem_cons_succ, List.getElem_cons_zero, Act.put, List.setIfInBounds_toArray, List.set_cons_zero, List.set_cons_succ]
                    refine wpAnyH_take (i := 9) (v := .agg (opC r)) rfl (by kernel_rfl) (by kernel_rfl) (by kernel_rfl) (fun _ _ _ h => h) (Or.inl ⟨by rfl, fun u hu => by (go_simp)⟩) HRH.out.q ?_
                    simp only [List.getElem_toArray, List.getElem_cons_succ, List.getElem_cons_zero, Act.put, List.setIfInBounds_toArray, List.set_cons_zero, List.set_cons_succ]
                    refine wpAnyH_take (i := 10) (v := .bool bb) rfl (by kernel_rfl) (by kernel_rfl) (by kernel_rfl) (fun _ _ _ h => h) (Or.inl ⟨by rfl, fun u hu => by (go_simp)⟩) HRH.out.q ?_
                    simp only [List.getElem_toArray, List.getElem_cons_succ, List.getElem_cons_zero, Act.put, List.setIfInBounds_toArray, List.set_cons_zero, List.set_cons_succ]
                    have HB9 := Lib.hid (hkp rb _ _ HBa.out.lt HBa.out (by decide) (by decide) (by decide) (by decide) (by decide) (by decide) (by decide))
                    clear hkp hact8
                    generalize u1 = W9 at *
                    refine wpAnyH_ready (rs := [12]) (by kernel_rfl) (by simp) ?_
                    refine AllReadyH.cons rfl (fun KK hK => ?_) AllReadyH.nil
                    have HR9 := Lib.hid (show RH w (W9.setRow rb (opC r)) p bp j C qb u13 U.out (pickP C i U) from HRH.out.row HB9.out HL9.out HN9.out (opC r))
                    have HB0 := Lib.hid (show Blk (W9.setRow rb (opC r)) rb 80 (opC r) from setRow_heap W9 rb op0 _ 80 (0, 0) HB9.out)
                    refine wp_store_row 80 (.tmp 19) (.tmp 132) rfl rb (opC r) rfl rfl 80 op0 HB9.out (by kernel_rfl) rfl (by kernel_rfl) ?_
                    refine hK.out _ _ HR9.out.q (fun _ => ?_)
                    clear hK KK
                    simp only [List.setIfInBounds_toArray, List.set_cons_zero, List.set_cons_succ]
                    refine wpAnyH_take (i := 13) (v := .bool bb) rfl (by kernel_rfl) (by kernel_rfl) (by kernel_rfl) (fun _ _ _ h => h) (Or.inl ⟨by rfl, fun u hu => by (go_simp)⟩) HR9.out.q ?_
                    simp only [List.getElem_toArray, List.getElem_cons_succ, List.getElem_cons_zero, Act.put, List.setIfInBounds_toArray, List.set_cons_zero, List.set_cons_succ]
                    refine wpAnyH_done (by kernel_rfl) ?_ _
                    go_wp2_with fail
                    go_meet
                    case rel => exact ⟨rb, bb, r, rfl, rfl, HB0.out, HR9.out, HOUT.out⟩
                case rest =>
                obtain ⟨rb, bb, r, rfl, rfl, hb9, hrh, hout⟩ := hcut
                generalize wc = W5 at *
                have HB9 := Lib.hid hb9
                have HR9 := Lib.hid hrh
                have HO9 := Lib.hid hout
                clear hb9 hrh hout
                cases bb with
                | false =>
                  have HRG := Lib.hid (show RG w W5 p bp j C qb u13 (pickP C i U) from by
                    have e : (pickP C i U).out = U.out := by have := HO9.out; simpa using this
                    have := HR9.out
                    rw [← e] at this
                    exact this.none)
                  go_wp2_with fail
                  go_roundw
                  case rel => exact ⟨pickP C i U, by rw [HSM.out.1.2.2]; rfl, HRG.out, by rw [HSM.out.1.2.2]; have h1 := HSM.out.2; have h2 := HGU.out.2.1; omega, HEN.out⟩
                  case measure =>
                    have h1 := HSM.out.2
                    have h2 := HGU.out.2.1
                    simp only [intOf]
                    omega
                | true =>
                  go_upto_region 30 with fail
                  have HOR := Lib.hid (show (pickP C i U).out = U.out ++ [r] from by have := HO9.out; simpa using this)
                  have hbs := fun (W : World) => Blk.made W 80 (opC r)
                  have HLEN := Lib.hid (show (U.out.map opL).length + 1 ≤ 1000000 by rw [List.length_map]; have := HGU.out.1.outs; omega)
                  go_wp2_with (first
                    | refine wpList_load_row rfl 80 (.tmp 19) rfl rb rfl 80 (opC r) (0, 0) _ HB9.out Tryz.underlying80 rfl (by kernel_rfl) ?_
                    | (refine wpList_appG info_op rfl (by omega) (by omega) Tryz.underlying74 rfl (.tmp 135) (.tmp 137) rfl rfl (HR9.out.out.below (below_one _ _)) rfl (opL_ok r) (made_row1 (hbs _)) HLEN.out (Nat.le_trans HR9.out.gr.b.size (below_one _ _).size) ?_; intro v' w' hown hgr hv'))
                  have HRG := Lib.hid (show RG w w' p bp j C qb v' (pickP C i U) from (HR9.out.below (below_one _ _)).app HOR.out hown hgr)
                  clear hown hgr hv' hbs
                  go_roundw
                  case rel => exact ⟨pickP C i U, by rw [HSM.out.1.2.2]; rfl, HRG.out, by rw [HSM.out.1.2.2]; have h1 := HSM.out.2; have h2 := HGU.out.2.1; omega, HEN.out⟩
                  case measure =>
                    have h1 := HSM.out.2
                    have h2 := HGU.out.2.1
                    simp only [intOf]
                    omega
        have hlt2 : (k : Int) < (M : Int) := by omega
        have hj0 : (0 : Int) ≤ (k : Int) := by omega
        obtain ⟨x, hbx, hxb, hcx⟩ := (HO.out.ps.below HG.out.gr.b).2.2 k hlt
        subst hbx
        clear hxb
        obtain ⟨y, hy⟩ : ∃ y, picks.getD k 0 = y := ⟨_, rfl⟩
        rw [hy] at hcx
        have HY := Lib.hid (And.intro hy (hy ▸ HO.out.pr k hlt))
        clear hy
        have hdr : drw y j = ((y.emod j).toNat : Int) := by
          have h1 := HP.out
          have h2 := Int.emod_nonneg y (show (j : Int) ≠ 0 by omega)
          rw [drw_emod y j (by omega)]
          exact (Int.toNat_of_nonneg h2).symm
        have hin : (y.emod j).toNat < j := by
          have h1 := Int.emod_nonneg y (show (j : Int) ≠ 0 by have := HP.out; omega)
          have h2 := Int.emod_lt_of_pos y (show (0 : Int) < (j : Int) by have := HP.out; omega)
          exact (Int.toNat_lt h1).2 h2
        have HNX := Lib.hid (show picksP C j (picks.take (k + 1)) S0 = pickP C (y.emod j).toNat S from by rw [picksP_succ (by rw [HO.out.ps.1]; exact hlt), HY.out.1, HSS.out])
        have HSM := Lib.hid (And.intro (pick_ok (C := (C : Int)) HG.out.ok (by rw [HG.out.len]; exact hin)) (pick_sum (C := (C : Int)) HG.out.ok (by rw [HG.out.len]; exact hin)))
        go_wp2_with fail
        (with_reducible refine (rdraw_any y j (by omega) _).mono ?_)
        rintro e w4 ⟨rfl, rfl⟩
        rw [hdr]
        clear hcx hdr
        generalize (y.emod j).toNat = i0 at *
        have hi1 : (0 : Int) ≤ (i0 : Int) ∧ (i0 : Int) < (j : Int) := by omega
        go_upto_region 21 with fail
        have hon : ((⟨bp, 0, none⟩ : Addr).add (i0 * 5)) = ⟨bp, i0 * 5, none⟩ := by
          unfold Addr.add
          split
          · rename_i h0
            rw [h0]
          · simp
        go_cut [16, 17] from 86 to 96 (fun sv bv wx => ∃ (rb : Nat) (bb : Bool) (r : OpR), sv = .pointer (some ⟨rb, 0, none⟩) ∧ bv = .bool bb ∧ Blk wx rb 80 (opC r) ∧ RH w wx p bp j C qb u13 S.out (pickP C i0 S) ∧ (pickP C i0 S).out = S.out ++ (if bb = true then [r] else []))
        case first =>
          have HD := Lib.hid (show Blk wr.drew qb 91 (qcells 0 1 2 C) from HG.out.q)
          have HG1 := Lib.hid (HG.out.below (below_drew (Below.refl _ _)))
          refine wp_region_held_drew (S := fun u => Blk u qb 91 (qcells 0 1 2 C)) (by kernel_rfl) HD.out (fun _ => ?_)
          change wpAnyH _ _ _ _ _ 14 #[false, false, false, false, false, false, false, false, false, false, false, false, false, false] _ (World.drew _)
          generalize wr.drew = W at *
          refine wpAnyH_take (i := 0) (v := .pointer (some ⟨p, 0, none⟩)) rfl (by kernel_rfl) (by kernel_rfl) (by kernel_rfl) (fun _ _ _ h => h) (Or.inl ⟨by rfl, fun u hu => by (go_simp)⟩) HD.out ?_
          simp only [List.getElem_toArray, List.getElem_cons_succ, List.getElem_cons_zero, Act.put, List.setIfInBounds_toArray, List.set_cons_zero, List.set_cons_succ]
          refine wpAnyH_take (i := 1) (v := qv 0 1 2 C) rfl (by kernel_rfl) (by kernel_rfl) (by kernel_rfl) (fun _ _ _ h => h) (yields_row (by kernel_rfl) _ _ rfl qb (by kernel_rfl) 91 (qcells 0 1 2 C) (fun u hu => hu) _ Tryz.underlying91 rfl (by kernel_rfl)) HD.out ?_
          simp only [List.getElem_toArray, List.getElem_cons_succ, List.getElem_cons_zero, Act.put, List.setIfInBounds_toArray, List.set_cons_zero, List.set_cons_succ]
          refine wpAnyH_take (i := 2) (v := .slice (some ⟨bp, 0, none⟩) j pc) rfl (by kernel_rfl) (by kernel_rfl) (by kernel_rfl) (fun _ _ _ h => h) (Or.inl ⟨by rfl, fun u hu => by (go_simp)⟩) HD.out ?_
          simp only [List.getElem_toArray, List.getElem_cons_succ, List.getElem_cons_zero, Act.put, List.setIfInBounds_toArray, List.set_cons_zero, List.set_cons_succ]
          refine wpAnyH_take (i := 3) (v := .int .i64 i0) rfl (by kernel_rfl) (by kernel_rfl) (by kernel_rfl) (fun _ _ _ h => h) (Or.inl ⟨by rfl, fun u hu => by (go_simp)⟩) HD.out ?_
          simp only [List.getElem_toArray, List.getElem_cons_succ, List.getElem_cons_zero, Act.put, List.setIfInBounds_toArray, List.set_cons_zero, List.set_cons_succ]
          refine wpAnyH_take (i := 4) (v := .pointer (some ⟨bp, i0 * 5, none⟩)) rfl (by kernel_rfl) (by kernel_rfl) (by kernel_rfl) (fun _ _ _ h => h) (Or.inl ⟨by rfl, fun u hu => by (go_simp; try rw [hon])⟩) HD.out ?_
          simp only [List.getElem_toArray, List.getElem_cons_succ, List.getElem_cons_zero, Act.put, List.setIfInBounds_toArray, List.set_cons_zero, List.set_cons_succ]
          refine wpAnyH_take (i := 5) (v := .int .i64 i0) rfl (by kernel_rfl) (by kernel_rfl) (by kernel_rfl) (fun _ _ _ h => h) (Or.inl ⟨by rfl, fun u hu => by (go_simp)⟩) HD.out ?_
          simp only [List.getElem_toArray, List.getElem_cons_succ, List.getElem_cons_zero, Act.put, List.setIfInBounds_toArray, List.set_cons_zero, List.set_cons_succ]
          refine wpAnyH_take (i := 6) (v := .int .i64 k) rfl (by kernel_rfl) (by kernel_rfl) (by kernel_rfl) (fun _ _ _ h => h) (Or.inl ⟨by rfl, fun u hu => by (go_simp)⟩) HD.out ?_
          simp only [List.getElem_toArray, List.getElem_cons_succ, List.getElem_cons_zero, Act.put, List.setIfInBounds_toArray, List.set_cons_zero, List.set_cons_succ]
          refine wpAnyH_ready (rs := [7, 11]) (by kernel_rfl) (by simp) ?_
          refine AllReadyH.cons rfl (fun KK hK => ?_) (AllReadyH.cons rfl (fun KK hK => ?_) AllReadyH.nil)
          · go_simp
            go_at_call 68
            have hact := HG1.out.act (i := i0) (by omega) HC.out
            rw [HN.out.1] at hact
            (with_reducible refine hact.mono ?_)
            rintro e u1 ⟨bb, r, rfl, hrh, hout, _⟩
            have HRH := Lib.hid hrh
            have HOUT := Lib.hid hout
            clear hrh hout hact
            refine hK.out _ _ HRH.out.q (fun _ => ?_)
            clear hK KK
            simp only [List.setIfInBounds_toArray, List.set_cons_zero, List.set_cons_succ]
            refine wpAnyH_take (i := 8) (v := .tuple #[.agg (opC r), .bool bb]) rfl (by kernel_rfl) (by kernel_rfl) (by kernel_rfl) (fun _ _ _ h => h) (Or.inl ⟨by rfl, fun u hu => by (go_simp)⟩) HRH.out.q ?_
            simp only [List.getElem_toArray, List.getElem_cons_succ, List.getElem_cons_zero, Act.put, List.setIfInBounds_toArray, List.set_cons_zero, List.set_cons_succ]
            refine wpAnyH_take (i := 9) (v := .agg (opC r)) rfl (by kernel_rfl) (by kernel_rfl) (by kernel_rfl) (fun _ _ _ h => h) (Or.inl ⟨by rfl, fun u hu => by (go_simp)⟩) HRH.out.q ?_
            simp only [List.getElem_toArray, List.getElem_cons_succ, List.getElem_cons_zero, Act.put, List.setIfInBounds_toArray, List.set_cons_zero, List.set_cons_succ]
            refine wpAnyH_take (i := 10) (v := .bool bb) rfl (by kernel_rfl) (by kernel_rfl) (by kernel_rfl) (fun _ _ _ h => h) (Or.inl ⟨by rfl, fun u hu => by (go_simp)⟩) HRH.out.q ?_
            simp only [List.getElem_toArray, List.getElem_cons_succ, List.getElem_cons_zero, Act.put, List.setIfInBounds_toArray, List.set_cons_zero, List.set_cons_succ]
            refine wpAnyH_ready (rs := [11]) (by kernel_rfl) (by simp) ?_
            refine AllReadyH.cons rfl (fun KK hK => ?_) AllReadyH.nil
            go_simp
            have HRH2 := Lib.hid (HRH.out.below (below_one u1 (.cells op0 80)))
            have HB9 := Lib.hid (Blk.made u1 80 op0)
            have HL9 := Lib.hid (show w.heap.size ≤ u1.heap.size from HRH.out.gr.b.size)
            have HN9 := Lib.hid (fun (k : Nat) (hk : u13.ownBlock = some k) => Nat.ne_of_lt (HRH.out.out.lt k hk).2)
            refine hK.out _ _ HRH2.out.q (fun _ => ?_)
            clear hK KK
            simp only [List.setIfInBounds_toArray, List.set_cons_zero, List.set_cons_succ]
            generalize u1.alloc (.cells op0 80) = W9 at *
            generalize u1.heap.size = rb at *
            refine wpAnyH_ready (rs := [12]) (by kernel_rfl) (by simp) ?_
            refine AllReadyH.cons rfl (fun KK hK => ?_) AllReadyH.nil
            have HR9 := Lib.hid (show RH w (W9.setRow rb (opC r)) p bp j C qb u13 S.out (pickP C i0 S) from HRH2.out.row HB9.out HL9.out HN9.out (opC r))
            have HB0 := Lib.hid (show Blk (W9.setRow rb (opC r)) rb 80 (opC r) from setRow_heap W9 rb op0 _ 80 (0, 0) HB9.out)
            refine wp_store_row 80 (.tmp 16) (.tmp 95) rfl rb (opC r) rfl rfl 80 op0 HB9.out (by kernel_rfl) rfl (by kernel_rfl) ?_
            refine hK.out _ _ HR9.out.q (fun _ => ?_)
            clear hK KK
            simp only [List.setIfInBounds_toArray, List.set_cons_zero, List.set_cons_succ]
            refine wpAnyH_take (i := 13) (v := .bool bb) rfl (by kernel_rfl) (by kernel_rfl) (by kernel_rfl) (fun _ _ _ h => h) (Or.inl ⟨by rfl, fun u hu => by (go_simp)⟩) HR9.out.q ?_
            simp only [List.getElem_toArray, List.getElem_cons_succ, List.getElem_cons_zero, Act.put, List.setIfInBounds_toArray, List.set_cons_zero, List.set_cons_succ]
            refine wpAnyH_done (by kernel_rfl) ?_ _
            go_wp2_with fail
            go_meet
            case rel => exact ⟨rb, bb, r, rfl, rfl, HB0.out, HR9.out, HOUT.out⟩
          · go_simp
            have HG2 := Lib.hid (HG1.out.below (below_one W (.cells op0 80)))
            have HBa := Lib.hid (Blk.made W 80 op0)
            have HL9 := Lib.hid (show w.heap.size ≤ W.heap.size from HG1.out.gr.b.size)
            have HN9 := Lib.hid (fun (k : Nat) (hk : u13.ownBlock = some k) => Nat.ne_of_lt (HG1.out.out.lt k hk).2)
            refine hK.out _ _ HG2.out.q (fun _ => ?_)
            clear hK KK
            simp only [List.setIfInBounds_toArray, List.set_cons_zero, List.set_cons_succ]
            generalize W.alloc (.cells op0 80) = W8 at *
            generalize W.heap.size = rb at *
            refine wpAnyH_ready (rs := [7]) (by kernel_rfl) (by simp) ?_
            refine AllReadyH.cons rfl (fun KK hK => ?_) AllReadyH.nil
            go_simp
            go_at_call 68
            have hact := HG2.out.act (i := i0) (by omega) HC.out
            rw [HN.out.1] at hact
            have hact8 := hact
            (with_reducible refine (hact8).mono ?_)
            rintro e u1 ⟨bb, r, rfl, hrh, hout, hkp⟩
            have HRH := Lib.hid hrh
            have HOUT := Lib.hid hout
            clear hrh hout hact
            refine hK.out _ _ HRH.out.q (fun _ => ?_)
            clear hK KK
            simp only [List.setIfInBounds_toArray, List.set_cons_zero, List.set_cons_succ]
            refine wpAnyH_take (i := 8) (v := .tuple #[.agg (opC r), .bool bb]) rfl (by kernel_rfl) (by kernel_rfl) (by kernel_rfl) (fun _ _ _ h => h) (Or.inl ⟨by rfl, fun u hu => by (go_simp)⟩) HRH.out.q ?_
            simp only [List.getElem_toArray, List.getElem_cons_succ, List.getElem_cons_zero, Act.put, List.setIfInBounds_toArray, List.set_cons_zero, List.set_cons_succ]
            refine wpAnyH_take (i := 9) (v := .agg (opC r)) rfl (by kernel_rfl) (by kernel_rfl) (by kernel_rfl) (fun _ _ _ h => h) (Or.inl ⟨by rfl, fun u hu => by (go_simp)⟩) HRH.out.q ?_
            simp only [List.getElem_toArray, List.getElem_cons_succ, List.getElem_cons_zero, Act.put, List.setIfInBounds_toArray, List.set_cons_zero, List.set_cons_succ]
            refine wpAnyH_take (i := 10) (v := .bool bb) rfl (by kernel_rfl) (by kernel_rfl) (by kernel_rfl) (fun _ _ _ h => h) (Or.inl ⟨by rfl, fun u hu => by (go_simp)⟩) HRH.out.q ?_
            simp only [List.getElem_toArray, List.getElem_cons_succ, List.getElem_cons_zero, Act.put, List.setIfInBounds_toArray, List.set_cons_zero, List.set_cons_succ]
            have HB9 := Lib.hid (hkp rb _ _ HBa.out.lt HBa.out (by decide) (by decide) (by decide) (by decide) (by decide) (by decide) (by decide))
            clear hkp hact8
            generalize u1 = W9 at *
            refine wpAnyH_ready (rs := [12]) (by kernel_rfl) (by simp) ?_
            refine AllReadyH.cons rfl (fun KK hK => ?_) AllReadyH.nil
            have HR9 := Lib.hid (show RH w (W9.setRow rb (opC r)) p bp j C qb u13 S.out (pickP C i0 S) from HRH.out.row HB9.out HL9.out HN9.out (opC r))
            have HB0 := Lib.hid (show Blk (W9.setRow rb (opC r)) rb 80 (opC r) from setRow_heap W9 rb op0 _ 80 (0, 0) HB9.out)
            refine wp_store_row 80 (.tmp 16) (.tmp 95) rfl rb (opC r) rfl rfl 80 op0 HB9.out (by kernel_rfl) rfl (by kernel_rfl) ?_
            refine hK.out _ _ HR9.out.q (fun _ => ?_)
            clear hK KK
            simp only [List.setIfInBounds_toArray, List.set_cons_zero, List.set_cons_succ]
            refine wpAnyH_take (i := 13) (v := .bool bb) rfl (by kernel_rfl) (by kernel_rfl) (by kernel_rfl) (fun _ _ _ h => h) (Or.inl ⟨by rfl, fun u hu => by (go_simp)⟩) HR9.out.q ?_
            simp only [List.getElem_toArray, List.getElem_cons_succ, List.getElem_cons_zero, Act.put, List.setIfInBounds_toArray, List.set_cons_zero, List.set_cons_succ]
            refine wpAnyH_done (by kernel_rfl) ?_ _
            go_wp2_with fail
            go_meet
            case rel => exact ⟨rb, bb, r, rfl, rfl, HB0.out, HR9.out, HOUT.out⟩
        case rest =>
        obtain ⟨rb, bb, r, rfl, rfl, hb9, hrh, hout⟩ := hcut
        generalize wc = W5 at *
        have HB9 := Lib.hid hb9
        have HR9 := Lib.hid hrh
        have HO9 := Lib.hid hout
        clear hb9 hrh hout
        cases bb with
        | false =>
          have HRG := Lib.hid (show RG w W5 p bp j C qb u13 (pickP C i0 S) from by
            have e : (pickP C i0 S).out = S.out := by have := HO9.out; simpa using this
            have := HR9.out
            rw [← e] at this
            exact this.none)
          go_wp2_with fail
          go_roundw
          case rel => exact ⟨k + 1, by rfl, by omega, by rw [HNX.out]; exact HRG.out, by rw [HNX.out, HSM.out.1.2.2]; have := HN.out.1; omega, by rw [HNX.out]; have h1 := HSM.out.2.2.1; have h2 := HN.out.2; omega⟩
          case measure => simp only [intOf]; omega
        | true =>
          go_upto_region 23 with fail
          have HOR := Lib.hid (show (pickP C i0 S).out = S.out ++ [r] from by have := HO9.out; simpa using this)
          have hbs := fun (W : World) => Blk.made W 80 (opC r)
          have HLEN := Lib.hid (show (S.out.map opL).length + 1 ≤ 1000000 by rw [List.length_map]; have := HG.out.outs; omega)
          go_wp2_with (first
            | refine wpList_load_row rfl 80 (.tmp 16) rfl rb rfl 80 (opC r) (0, 0) _ HB9.out Tryz.underlying80 rfl (by kernel_rfl) ?_
            | (refine wpList_appG info_op rfl (by omega) (by omega) Tryz.underlying74 rfl (.tmp 98) (.tmp 100) rfl rfl (HR9.out.out.below (below_one _ _)) rfl (opL_ok r) (made_row1 (hbs _)) HLEN.out (Nat.le_trans HR9.out.gr.b.size (below_one _ _).size) ?_; intro v' w' hown hgr hv'))
          have HRG := Lib.hid (show RG w w' p bp j C qb v' (pickP C i0 S) from (HR9.out.below (below_one _ _)).app HOR.out hown hgr)
          clear hown hgr hv' hbs
          go_roundw
          case rel => exact ⟨k + 1, by rfl, by omega, by rw [HNX.out]; exact HRG.out, by rw [HNX.out, HSM.out.1.2.2]; have := HN.out.1; omega, by rw [HNX.out]; have h1 := HSM.out.2.2.1; have h2 := HN.out.2; omega⟩
          case measure => simp only [intOf]; omega
    obtain ⟨w1, rfl⟩ : ∃ w1, w1 = wr := ⟨wr, rfl⟩
    obtain ⟨x, va, vc, hax, hxb, hcx, hin, hnl⟩ := HO.out.pl j (by rw [HO.out.ln]; exact hlt)
    subst hax
    have hlt2 : (j : Int) < (N : Int) := by omega
    have hj0 : (0 : Int) ≤ (j : Int) := by omega
    obtain ⟨L, hL⟩ : ∃ L, plan.getD j [] = L := ⟨_, rfl⟩
    have HL := Lib.hid hL
    rw [hL] at hcx hin hnl
    obtain ⟨n, hn⟩ : ∃ n, L.length = n := ⟨_, rfl⟩
    rw [hn] at hcx hnl
    have HX := Lib.hid (And.intro hin (And.intro hn (And.intro hcx hxb)))
    have hnI : (n : Int) ≤ 900000 := by omega
    have hvf := HG.out.pl.form
    obtain ⟨pa, pc, hpv, hpc⟩ := hvf
    obtain ⟨pl, hpl2⟩ : ∃ pl, (V.map rowA).length = pl := ⟨_, rfl⟩
    rw [hpl2] at hpv hpc
    subst hpv
    have HPL := Lib.hid hpl2
    clear hL hin hn hcx hpl2
    go_upto_region 9 with fail
    have HB1 := Lib.hid (below_one w1 (.cells (rowA (.slice none 0 0)).toArray 149))
    have HA1 := Lib.hid (Blk.made w1 149 (rowA (.slice none 0 0)).toArray)
    have HG1 := Lib.hid HG.out
    clear HG
    go_wp2_with fail
    go_loopw [12] (fun yv wy => ∃ (k : Nat) (u : Value), yv = .int .i64 k ∧ k ≤ n ∧ Below w1.heap.size w1 wy ∧ Blk wy w1.heap.size 149 #[u, .pointer none, .int .i64 0, .int .i64 0, .int .i64 (-1)] ∧ OwnG wy w1.heap.size 138 2 u (((L.take k).filter (canR j)).map actL)) (fun yv _ => n - (intOf yv).toNat)
    case atStart => exact ⟨0, _, rfl, by omega, HB1.out, HA1.out, OwnG.nil ..⟩
    case round =>
      clear HB1 HA1
      obtain ⟨k, u, rfl, hk, hb, ha, hu⟩ := hrel
      have HB := Lib.hid hb
      have HA := Lib.hid ha
      have HU := Lib.hid hu
      have e0 : wr.cell? (x.add j) = some (.slice va n vc) := by rw [hb.cell (p := x.add j) (by rw [block_add]; exact Nat.lt_of_lt_of_le HX.out.2.2.2 HG1.out.b.size), HG1.out.b.cell (p := x.add j) (by rw [block_add]; exact HX.out.2.2.2)]; exact HX.out.2.2.1
      clear hb ha hu
      by_cases hkl : k < n
      case neg =>
        have hkn : k = n := by omega
        subst hkn
        have hf2 : decide ((k : Int) < (k : Int)) = false := by simp
        have hu2 := HU.out
        rw [List.take_of_length_le (by rw [HX.out.2.1]; exact Nat.le_refl _)] at hu2
        have HU2 := Lib.hid hu2
        obtain ⟨ua, uc, hue, huc⟩ := hu2.form
        obtain ⟨ul, hul⟩ : ∃ ul, ((L.filter (canR j)).map actL).length = ul := ⟨_, rfl⟩
        rw [hul] at hue huc
        subst hue
        have HAC := Lib.hid (show AcR wr w.heap.size (.slice ua ul uc) ((plan.getD j []).filter (canR j)) from by rw [HL.out]; exact AcR.of_own (HU2.out.mono HG1.out.b.size))
        have HG2 := Lib.hid (HG1.out.below HB.out)
        have HLEN := Lib.hid (show (V.map rowA).length + 1 ≤ 1000000 by rw [List.length_map, HG1.out.len]; omega)
        clear hul HU HU2 hu2
        have c0 := HA.out.at_ 0
        have c1 := HA.out.at_ 1
        have c2 := HA.out.at_ 2
        have c3 := HA.out.at_ 3
        have c4 := HA.out.at_ 4
        have hbs := fun (W : World) => Blk.made W 149 (rowA (.slice ua ul uc)).toArray
        go_wp2_with (first
          | refine wpList_load_row rfl 149 (.tmp 11) rfl w1.heap.size rfl 149 (rowA (.slice ua ul uc)).toArray (0, 0) _ HA.out Tryz.underlying149 rfl (by kernel_rfl) ?_
          | (refine wpList_appG info_actor rfl (by omega) (by omega) Tryz.underlying147 rfl (.tmp 69) (.tmp 71) rfl rfl (HG2.out.pl.below (below_one _ _)) rfl (rowA_ok ua ul uc) (made_row1 (hbs _)) HLEN.out (Nat.le_trans HG2.out.b.size (below_one _ _).size) ?_; intro v' w' hown hgr hv'))
        have HR := Lib.hid (show BR w w' p C qb (j + 1) (sizeS (2 + C)) plan (V ++ [.slice ua ul uc]) v' from (HG2.out.below (below_one _ _)).next (HAC.out.below (below_one _ _)) hgr hown)
        clear hown hgr hv' hbs
        go_roundw
        case rel => exact ⟨j + 1, _, by rfl, by omega, HR.out⟩
        case measure => simp only [intOf]; omega
      obtain ⟨y, rfl, hyb, hcy⟩ := HX.out.1.2.2 k (by rw [List.length_map, HX.out.2.1]; exact hkl)
      have eg : (L.map actL).getD k [] = actL (L.getD k ⟨0, 0⟩) := by
        rw [List.getD_eq_getElem?_getD, List.getD_eq_getElem?_getD, List.getElem?_map, List.getElem?_eq_getElem (by rw [HX.out.2.1]; exact hkl)]
        rfl
      obtain ⟨y2, hy2, _, e1, eall⟩ := ((HX.out.1.below HG1.out.b).below HB.out).at_ (i := k) (by rw [List.length_map, HX.out.2.1]; exact hkl) (by omega)
      cases hy2
      have e2 := eall 0 (by omega)
      clear eall hcy
      rw [eg] at e1 e2
      have htn := take_next L (canR j) (j := k) (by rw [HX.out.2.1]; exact hkl) ⟨0, 0⟩
      obtain ⟨o, hoj⟩ : ∃ o, L.getD k ⟨0, 0⟩ = o := ⟨_, rfl⟩
      rw [hoj] at e1 e2 htn
      obtain ⟨k0, v0⟩ := o
      replace e1 : wr.cell? (y.add (k * 2)) = some (.int .i64 k0) := e1
      replace e2 : wr.cell? ⟨(y.add (k * 2)).block, (y.add (k * 2)).off + 1, none⟩ = some (.int .i64 v0) := e2
      have HST := Lib.hid (fun (V : World) (hV : Below w1.heap.size w1 V) => show V.cell? (x.add j) = some (.slice (some y) n vc) ∧ V.cell? (y.add (k * 2)) = some (.int .i64 k0) ∧ V.cell? ⟨(y.add (k * 2)).block, (y.add (k * 2)).off + 1, none⟩ = some (.int .i64 v0) from
        ⟨by rw [hV.cell (p := x.add j) (by rw [block_add]; exact Nat.lt_of_lt_of_le HX.out.2.2.2 HG1.out.b.size), HG1.out.b.cell (p := x.add j) (by rw [block_add]; exact HX.out.2.2.2)]; exact HX.out.2.2.1,
         by rw [hV.cell (p := y.add (k * 2)) (by rw [block_add]; exact Nat.lt_of_lt_of_le hyb HG1.out.b.size), ← HB.out.cell (p := y.add (k * 2)) (by rw [block_add]; exact Nat.lt_of_lt_of_le hyb HG1.out.b.size)]; exact e1,
         by rw [hV.cell (p := ⟨(y.add (k * 2)).block, (y.add (k * 2)).off + 1, none⟩) (by show (y.add (k * 2)).block < _; rw [block_add]; exact Nat.lt_of_lt_of_le hyb HG1.out.b.size), ← HB.out.cell (p := ⟨(y.add (k * 2)).block, (y.add (k * 2)).off + 1, none⟩) (by show (y.add (k * 2)).block < _; rw [block_add]; exact Nat.lt_of_lt_of_le hyb HG1.out.b.size)]; exact e2⟩)
      have hkl2 : (k : Int) < (n : Int) := by omega
      have hk0 : (0 : Int) ≤ (k : Int) := by omega
      clear eg hoj
      go_wp2_with fail
      (with_reducible refine (rcan_any j ⟨k0, v0⟩ _).mono ?_)
      rintro e w6 ⟨rfl, hb6⟩
      obtain ⟨cb, hcb⟩ : ∃ cb, canR j ⟨k0, v0⟩ = cb := ⟨_, rfl⟩
      have HT2 := Lib.hid (hcb ▸ htn)
      have HU6 := Lib.hid (HU.out.below hb6)
      have HA6 := Lib.hid (HA.out.below hb6)
      have HB6 := Lib.hid (HB.out.trans (hb6.mono HB.out.size))
      rw [hcb]
      clear hcb htn hb6 HU HA HB e0 e1 e2
      cases cb with
      | false =>
        have HT3 := Lib.hid (show (L.take (k + 1)).filter (canR j) = (L.take k).filter (canR j) from by rw [HT2.out]; simp)
        go_wp2_with fail
        go_roundw
        case rel => exact ⟨k + 1, _, by rfl, by omega, HB6.out, HA6.out, HT3.out ▸ HU6.out⟩
        case measure => simp only [intOf]; omega
      | true =>
        have HT3 := Lib.hid (show (L.take (k + 1)).filter (canR j) = (L.take k).filter (canR j) ++ [⟨k0, v0⟩] from HT2.out)
        obtain ⟨ua, uc, hue, huc⟩ := HU6.out.form
        obtain ⟨ul, hul⟩ : ∃ ul, (((L.take k).filter (canR j)).map actL).length = ul := ⟨_, rfl⟩
        have HLEN := Lib.hid (show (((L.take k).filter (canR j)).map actL).length + 1 ≤ 1000000 by
          rw [List.length_map]
          have h1 := List.length_filter_le (canR j) (L.take k)
          have h2 : (L.take k).length ≤ k := by rw [List.length_take]; omega
          omega)
        rw [hul] at hue huc
        subst hue
        clear hul
        go_upto_region 14 with fail
        refine wp_region_held_drew (S := (fun u => u.cell? (x.add j) = some (.slice (some y) n vc) ∧ u.cell? (y.add (k * 2)) = some (.int .i64 k0) ∧ u.cell? ⟨(y.add (k * 2)).block, (y.add (k * 2)).off + 1, none⟩ = some (.int .i64 v0))) (by kernel_rfl) (HST.out _ (HB6.out.trans ((below_drew (Below.refl _ _)).mono HB6.out.size))) (fun _ => ?_)
        change wpAnyH _ _ _ _ _ 13 #[false, false, false, false, false, false, false, false, false, false, false, false, false] _ (World.drew _)
        have HW1 := Lib.hid (HB6.out.trans ((below_drew (Below.refl w6.heap.size w6)).mono HB6.out.size))
        have HU7 := Lib.hid (HU6.out.below (below_drew (Below.refl _ _)))
        have HA7 := Lib.hid (HA6.out.below (below_drew (Below.refl _ _)))
        clear HU6 HA6 HB6
        generalize w6.drew = W at *
        have HSW := Lib.hid (HST.out W HW1.out)
        refine wpAnyH_take (i := 0) (v := .pointer (some ⟨w1.heap.size, 0, none⟩)) rfl (by kernel_rfl) (by kernel_rfl) (by kernel_rfl) (fun _ _ _ h => h) (Or.inl ⟨by rfl, fun u hu => by (go_simp)⟩) HSW.out ?_
        simp only [List.getElem_toArray, List.getElem_cons_succ, List.getElem_cons_zero, Act.put, List.setIfInBounds_toArray, List.set_cons_zero, List.set_cons_succ]
        refine wpAnyH_take (i := 2) (v := .slice (some x) N c) rfl (by kernel_rfl) (by kernel_rfl) (by kernel_rfl) (fun _ _ _ h => h) (Or.inl ⟨by rfl, fun u hu => by (go_simp)⟩) HSW.out ?_
        simp only [List.getElem_toArray, List.getElem_cons_succ, List.getElem_cons_zero, Act.put, List.setIfInBounds_toArray, List.set_cons_zero, List.set_cons_succ]
        refine wpAnyH_take (i := 3) (v := .int .i64 j) rfl (by kernel_rfl) (by kernel_rfl) (by kernel_rfl) (fun _ _ _ h => h) (Or.inl ⟨by rfl, fun u hu => by (go_simp)⟩) HSW.out ?_
        simp only [List.getElem_toArray, List.getElem_cons_succ, List.getElem_cons_zero, Act.put, List.setIfInBounds_toArray, List.set_cons_zero, List.set_cons_succ]
        refine wpAnyH_take (i := 4) (v := .pointer (some (x.add j))) rfl (by kernel_rfl) (by kernel_rfl) (by kernel_rfl) (fun _ _ _ h => h) (Or.inl ⟨by rfl, fun u hu => by (go_simp)⟩) HSW.out ?_
        simp only [List.getElem_toArray, List.getElem_cons_succ, List.getElem_cons_zero, Act.put, List.setIfInBounds_toArray, List.set_cons_zero, List.set_cons_succ]
        refine wpAnyH_take (i := 5) (v := .slice (some y) n vc) rfl (by kernel_rfl) (by kernel_rfl) (by kernel_rfl) (fun _ _ _ h => h) (Or.inl ⟨by rfl, fun u hu => by (have c1 := hu.1; go_simp)⟩) HSW.out ?_
        simp only [List.getElem_toArray, List.getElem_cons_succ, List.getElem_cons_zero, Act.put, List.setIfInBounds_toArray, List.set_cons_zero, List.set_cons_succ]
        refine wpAnyH_take (i := 6) (v := .int .i64 k) rfl (by kernel_rfl) (by kernel_rfl) (by kernel_rfl) (fun _ _ _ h => h) (Or.inl ⟨by rfl, fun u hu => by (go_simp)⟩) HSW.out ?_
        simp only [List.getElem_toArray, List.getElem_cons_succ, List.getElem_cons_zero, Act.put, List.setIfInBounds_toArray, List.set_cons_zero, List.set_cons_succ]
        refine wpAnyH_take (i := 7) (v := .pointer (some (y.add (k * 2)))) rfl (by kernel_rfl) (by kernel_rfl) (by kernel_rfl) (fun _ _ _ h => h) (Or.inl ⟨by rfl, fun u hu => by (go_simp)⟩) HSW.out ?_
        simp only [List.getElem_toArray, List.getElem_cons_succ, List.getElem_cons_zero, Act.put, List.setIfInBounds_toArray, List.set_cons_zero, List.set_cons_succ]
        refine wpAnyH_take (i := 8) (v := .agg #[.int .i64 k0, .int .i64 v0]) rfl (by kernel_rfl) (by kernel_rfl) (by kernel_rfl) (fun _ _ _ h => h) (Or.inl ⟨by rfl, fun u hu => by (have c1 := hu.2.1; have c2 := hu.2.2; go_simp)⟩) HSW.out ?_
        simp only [List.getElem_toArray, List.getElem_cons_succ, List.getElem_cons_zero, Act.put, List.setIfInBounds_toArray, List.set_cons_zero, List.set_cons_succ]
        refine wpAnyH_ready (rs := [1, 9]) (by kernel_rfl) (by simp) ?_
        refine AllReadyH.cons rfl (fun KK hK => ?_) (AllReadyH.cons rfl (fun KK hK => ?_) AllReadyH.nil)
        · have HWB := Lib.hid HW1.out
          have c5 : W.cell? ⟨w1.heap.size, 0, none⟩ = some (.slice ua ul uc) := HA7.out.at_ 0
          go_simp
          refine hK.out _ _ (HST.out _ HWB.out) (fun _ => ?_)
          clear hK KK c5
          simp only [List.setIfInBounds_toArray, List.set_cons_zero, List.set_cons_succ]
          refine wpAnyH_ready (rs := [9]) (by kernel_rfl) (by simp) ?_
          refine AllReadyH.cons rfl (fun KK hK => ?_) AllReadyH.nil
          go_simp
          have HW8 := Lib.hid (show w1.heap.size ≤ (W.alloc (.cells #[.int .i64 k0, .int .i64 v0] 138)).heap.size ∧ Below w1.heap.size w1 (W.alloc (.cells #[.int .i64 k0, .int .i64 v0] 138)) from by have hh := HW1.out.trans ((below_one W (.cells #[.int .i64 k0, .int .i64 v0] 138)).mono HW1.out.size); exact ⟨hh.size, hh⟩)
          have HU8 := Lib.hid (HU7.out.below (below_one W (.cells #[.int .i64 k0, .int .i64 v0] 138)))
          have HA8 := Lib.hid (HA7.out.below (below_one W (.cells #[.int .i64 k0, .int .i64 v0] 138)))
          have HBS := Lib.hid (Blk.made W 138 #[.int .i64 k0, .int .i64 v0])
          refine hK.out _ _ (HST.out _ HW8.out.2) (fun _ => ?_)
          clear hK KK
          simp only [List.setIfInBounds_toArray, List.set_cons_zero, List.set_cons_succ]
          generalize W.alloc (.cells #[.int .i64 k0, .int .i64 v0] 138) = W8 at *
          generalize W.heap.size = nb at *
          refine wpAnyH_ready (rs := [10]) (by kernel_rfl) (by simp) ?_
          refine AllReadyH.cons rfl (fun KK hK => ?_) AllReadyH.nil
          refine wp_appG (v := .slice ua ul uc) (R := ((L.take k).filter (canR j)).map actL) (r := actL ⟨k0, v0⟩) (base := w1.heap.size) info_act rfl (by omega) (by omega) Tryz.underlying136 (.tmp 58) (.tmp 66) rfl rfl HU8.out rfl (actL_ok ⟨k0, v0⟩) (made_row1 HBS.out) HLEN.out HW8.out.1 ?_
          intro v9 w9 hown hgr hv9
          obtain ⟨a9, l9, c9, hv9e⟩ : ∃ a l c, v9 = .slice a l c := by
            obtain ⟨a, c, e, hc⟩ := hown.form
            exact ⟨a, _, c, e⟩
          have HB9 := Lib.hid (show Below w1.heap.size w1 w9 from below_appG HW8.out.2 HU8.out hgr)
          have HA9 := Lib.hid (show Blk w9 w1.heap.size 149 #[.slice ua ul uc, .pointer none, .int .i64 0, .int .i64 0, .int .i64 (-1)] from HA8.out.of_same (hgr.block _ HA8.out.lt (fun e => by obtain ⟨cur, hc⟩ := HU8.out.ty _ e.symm; exact absurd rfl (HA8.out.apart hc (by decide)))))
          have HS9 := Lib.hid (HST.out w9 HB9.out)
          have HO9 := Lib.hid (show OwnG w9 w1.heap.size 138 2 v9 ((((L.take k).filter (canR j)) ++ ([⟨k0, v0⟩] : List ActR)).map actL) from by rw [List.map_append]; exact hown)
          have HN9 := Lib.hid (show ∀ b, v9.ownBlock = some b → b ≠ w1.heap.size from fun b hb e => by obtain ⟨cur, hc⟩ := hown.ty b hb; subst e; exact absurd rfl (HA9.out.apart hc (by decide)))
          subst hv9e
          clear hown hgr hv9
          refine hK.out _ _ HS9.out (fun _ => ?_)
          clear hK KK
          simp only [List.getElem_toArray, List.getElem_cons_succ, List.getElem_cons_zero, Act.put, List.setIfInBounds_toArray, List.set_cons_zero, List.set_cons_succ]
          refine wpAnyH_take (i := 11) (v := .pointer (some ⟨w1.heap.size, 0, none⟩)) rfl (by kernel_rfl) (by kernel_rfl) (by kernel_rfl) (fun _ _ _ h => h) (Or.inl ⟨by rfl, fun u hu => by (go_simp)⟩) HS9.out ?_
          simp only [List.getElem_toArray, List.getElem_cons_succ, List.getElem_cons_zero, Act.put, List.setIfInBounds_toArray, List.set_cons_zero, List.set_cons_succ]
          refine wpAnyH_ready (rs := [12]) (by kernel_rfl) (by simp) ?_
          refine AllReadyH.cons rfl (fun KK hK => ?_) AllReadyH.nil
          have c5 : w9.cell? ⟨w1.heap.size, 0, none⟩ = some (.slice ua ul uc) := HA9.out.at_ 0
          have f5 := HA9.out.free 0
          go_simp
          have HBA := Lib.hid (HB9.out.setCell (p := ⟨w1.heap.size, 0, none⟩) (Nat.le_refl _) (.slice a9 l9 c9))
          refine hK.out _ _ (HST.out _ HBA.out) (fun _ => ?_)
          clear hK KK
          simp only [List.setIfInBounds_toArray, List.set_cons_zero, List.set_cons_succ]
          refine wpAnyH_done (by kernel_rfl) ?_ _
          go_wp2_with fail
          go_roundw
          case rel =>
            refine ⟨k + 1, .slice a9 l9 c9, by rfl, by omega, HBA.out, HA9.out.put 0 _, ?_⟩
            rw [HT3.out]
            exact HO9.out.same (fun b hb => Below.heap_setCell w9 ⟨w1.heap.size, 0, none⟩ (.slice a9 l9 c9) b (HN9.out b hb))
          case measure => simp only [intOf]; omega
        · go_simp
          have HW8 := Lib.hid (show w1.heap.size ≤ (W.alloc (.cells #[.int .i64 k0, .int .i64 v0] 138)).heap.size ∧ Below w1.heap.size w1 (W.alloc (.cells #[.int .i64 k0, .int .i64 v0] 138)) from by have hh := HW1.out.trans ((below_one W (.cells #[.int .i64 k0, .int .i64 v0] 138)).mono HW1.out.size); exact ⟨hh.size, hh⟩)
          have HU8 := Lib.hid (HU7.out.below (below_one W (.cells #[.int .i64 k0, .int .i64 v0] 138)))
          have HA8 := Lib.hid (HA7.out.below (below_one W (.cells #[.int .i64 k0, .int .i64 v0] 138)))
          have HBS := Lib.hid (Blk.made W 138 #[.int .i64 k0, .int .i64 v0])
          refine hK.out _ _ (HST.out _ HW8.out.2) (fun _ => ?_)
          clear hK KK
          simp only [List.setIfInBounds_toArray, List.set_cons_zero, List.set_cons_succ]
          generalize W.alloc (.cells #[.int .i64 k0, .int .i64 v0] 138) = W8 at *
          generalize W.heap.size = nb at *
          have HWB := Lib.hid HW8.out.2
          refine wpAnyH_ready (rs := [1]) (by kernel_rfl) (by simp) ?_
          refine AllReadyH.cons rfl (fun KK hK => ?_) AllReadyH.nil
          have c5 : W8.cell? ⟨w1.heap.size, 0, none⟩ = some (.slice ua ul uc) := HA8.out.at_ 0
          go_simp
          refine hK.out _ _ (HST.out _ HWB.out) (fun _ => ?_)
          clear hK KK c5
          simp only [List.setIfInBounds_toArray, List.set_cons_zero, List.set_cons_succ]
          refine wpAnyH_ready (rs := [10]) (by kernel_rfl) (by simp) ?_
          refine AllReadyH.cons rfl (fun KK hK => ?_) AllReadyH.nil
          refine wp_appG (v := .slice ua ul uc) (R := ((L.take k).filter (canR j)).map actL) (r := actL ⟨k0, v0⟩) (base := w1.heap.size) info_act rfl (by omega) (by omega) Tryz.underlying136 (.tmp 58) (.tmp 66) rfl rfl HU8.out rfl (actL_ok ⟨k0, v0⟩) (made_row1 HBS.out) HLEN.out HW8.out.1 ?_
          intro v9 w9 hown hgr hv9
          obtain ⟨a9, l9, c9, hv9e⟩ : ∃ a l c, v9 = .slice a l c := by
            obtain ⟨a, c, e, hc⟩ := hown.form
            exact ⟨a, _, c, e⟩
          have HB9 := Lib.hid (show Below w1.heap.size w1 w9 from below_appG HW8.out.2 HU8.out hgr)
          have HA9 := Lib.hid (show Blk w9 w1.heap.size 149 #[.slice ua ul uc, .pointer none, .int .i64 0, .int .i64 0, .int .i64 (-1)] from HA8.out.of_same (hgr.block _ HA8.out.lt (fun e => by obtain ⟨cur, hc⟩ := HU8.out.ty _ e.symm; exact absurd rfl (HA8.out.apart hc (by decide)))))
          have HS9 := Lib.hid (HST.out w9 HB9.out)
          have HO9 := Lib.hid (show OwnG w9 w1.heap.size 138 2 v9 ((((L.take k).filter (canR j)) ++ ([⟨k0, v0⟩] : List ActR)).map actL) from by rw [List.map_append]; exact hown)
          have HN9 := Lib.hid (show ∀ b, v9.ownBlock = some b → b ≠ w1.heap.size from fun b hb e => by obtain ⟨cur, hc⟩ := hown.ty b hb; subst e; exact absurd rfl (HA9.out.apart hc (by decide)))
          subst hv9e
          clear hown hgr hv9
          refine hK.out _ _ HS9.out (fun _ => ?_)
          clear hK KK
          simp only [List.getElem_toArray, List.getElem_cons_succ, List.getElem_cons_zero, Act.put, List.setIfInBounds_toArray, List.set_cons_zero, List.set_cons_succ]
          refine wpAnyH_take (i := 11) (v := .pointer (some ⟨w1.heap.size, 0, none⟩)) rfl (by kernel_rfl) (by kernel_rfl) (by kernel_rfl) (fun _ _ _ h => h) (Or.inl ⟨by rfl, fun u hu => by (go_simp)⟩) HS9.out ?_
          simp only [List.getElem_toArray, List.getElem_cons_succ, List.getElem_cons_zero, Act.put, List.setIfInBounds_toArray, List.set_cons_zero, List.set_cons_succ]
          refine wpAnyH_ready (rs := [12]) (by kernel_rfl) (by simp) ?_
          refine AllReadyH.cons rfl (fun KK hK => ?_) AllReadyH.nil
          have c5 : w9.cell? ⟨w1.heap.size, 0, none⟩ = some (.slice ua ul uc) := HA9.out.at_ 0
          have f5 := HA9.out.free 0
          go_simp
          have HBA := Lib.hid (HB9.out.setCell (p := ⟨w1.heap.size, 0, none⟩) (Nat.le_refl _) (.slice a9 l9 c9))
          refine hK.out _ _ (HST.out _ HBA.out) (fun _ => ?_)
          clear hK KK
          simp only [List.setIfInBounds_toArray, List.set_cons_zero, List.set_cons_succ]
          refine wpAnyH_done (by kernel_rfl) ?_ _
          go_wp2_with fail
          go_roundw
          case rel =>
            refine ⟨k + 1, .slice a9 l9 c9, by rfl, by omega, HBA.out, HA9.out.put 0 _, ?_⟩
            rw [HT3.out]
            exact HO9.out.same (fun b hb => Below.heap_setCell w9 ⟨w1.heap.size, 0, none⟩ (.slice a9 l9 c9) b (HN9.out b hb))
          case measure => simp only [intOf]; omega

end Go.Proofs.YtjehiekmlbeaeaaGreat
