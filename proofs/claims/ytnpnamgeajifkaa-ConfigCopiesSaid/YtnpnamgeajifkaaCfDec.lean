/-
  Contract of the program's Decode.
-/
import Derived.Test.YtnpnamgeajifkaaCfDecA
import Derived.Deep.RegionHeld
namespace Go.Proofs.Ytnpnamgeajifkaa
open Go Go.RowKit
set_option linter.unusedSimpArgs false

set_option maxRecDepth 20000 in
set_option maxHeartbeats 8000000 in
theorem decode_any {w : World} {a : Option Addr} {L : Nat} {zs : List Int} (h : InB w w.heap.size a L zs) (c : Nat) (hc : L ≤ c) :
    Calls Try.prog 15 #[.slice a L c] w (Decoded zs w) := by
  have HZ := Lib.hid (show InB (w.alloc (.cells zero11 25)) w.heap.size a L zs from h.below (Nat.le_refl _) (below_one w _))
  have HF0 := Lib.hid ((Fr.refl [] w).alloc (.cells zero11 25))
  have HD0 := Lib.hid (Blk.made w 25 zero11)
  have hs0 : w.heap.size < (w.alloc (.cells zero11 25)).heap.size := by simp
  obtain ⟨f, hf⟩ : ∃ f, strm zs = f := ⟨_, rfl⟩
  have HFF := Lib.hid hf
  obtain ⟨N, hN⟩ : ∃ N : Nat, f 9 % 4 = (N : Int) := ⟨(f 9 % 4).toNat, by have := mod4 (f 9); omega⟩
  have hN4 : N < 4 := by have := mod4 (f 9); omega
  have HNP := Lib.hid (show nPr f = 1 + (N : Int) by unfold nPr; omega)
  have HN := Lib.hid hN
  obtain ⟨hle, hle'⟩ := nLe_in f
  clear h hf hN
  go_enter Try.func15, Try.ntmps15
  go_wp2_with fail
  generalize w.alloc (.cells zero11 25) = W0 at *
  refine (reader_any HZ.out c hc (Nat.le_of_lt hs0)).mono ?_
  rintro e w1 ⟨rfl, hr, hb⟩
  have hs1 := Nat.lt_of_lt_of_le hs0 hb.size
  have HR1 := Lib.hid hr
  have HF1 := Lib.hid (HF0.out.trans (below_fr hb))
  have HD1 := Lib.hid (HD0.out.below hb)
  have hgl := hr.lt
  generalize W0.heap.size = g at *
  clear hr hb HZ HF0 HD0
  go_wp2_with fail
  refine (readnumbers_any HR1.out).mono ?_
  rintro e w2 ⟨rfl, hr, hb⟩
  rw [HFF.out]
  have hs2 := hb.size
  have hD2 := HD1.out.of_same (hb.block _ HD1.out.lt (by simp; omega))
  have hS0 : DecSt Rdr (w2.alloc (.cells (ncells f (.slice none 0 0) (.slice none 0 0)) 25)) w.heap.size g w2.heap.size zs f 9 (.slice none 0 0) (.slice none 0 0) [] [] (w2.alloc (.cells (ncells f (.slice none 0 0) (.slice none 0 0)) 25)) :=
    ⟨hr.alloc _, Fr.refl _ _, Blk.made _ _ _, OwnP.nil _ _, OwnT.nil _ _ _, by omega, by omega, by simp⟩
  have HS0 := Lib.hid hS0
  have HF2 := Lib.hid ((HF1.out.drop hb (fun x hx => by simp at hx; omega)).alloc (.cells (ncells f (.slice none 0 0) (.slice none 0 0)) 25))
  have HD2 := Lib.hid (hD2.alloc (.cells (ncells f (.slice none 0 0) (.slice none 0 0)) 25))
  clear hr hb hD2 hS0 HR1 HF1 HD1
  go_wp2_with fail
  generalize hW2 : w2.alloc (.cells (ncells f (.slice none 0 0) (.slice none 0 0)) 25) = W2 at *
  clear hW2
  have hcb : g < w2.heap.size := by omega
  generalize w2.heap.size = cb at *
  refine (next_any HS0.out.rd _ (by omega) (by omega)).mono ?_
  rintro e w3 ⟨rfl, hr, hb⟩
  rw [HFF.out, HN.out]
  have HS1 := Lib.hid (HS0.out.read hr hb)
  clear hr hb HS0
  go_wp2_with fail
  go_loopw [15] (fun i wr => DecR Rdr W2 w.heap.size g cb zs f (1 + (N : Int)) (N + 1) i wr) (fun i _ => N + 1 - (intOf i).toNat)
  case atStart => exact ⟨0, _, by omega, rfl, HS1.out⟩
  case round =>
    obtain ⟨k, pv, hk, rfl, hst⟩ := hrel
    have HS := Lib.hid hst
    have hlt2 := hst.lt
    have h13 := hst.o3
    clear hst HS1
    by_cases hlt : k < N + 1
    · obtain ⟨pos, hpos⟩ : ∃ pos, (rdPs f (1 + (N : Int)) (nLe f) k 10).2 = pos := ⟨_, rfl⟩
      obtain ⟨ps, hps⟩ : ∃ ps, (rdPs f (1 + (N : Int)) (nLe f) k 10).1 = ps := ⟨_, rfl⟩
      have HS2 := Lib.hid (show DecSt Rdr W2 w.heap.size g cb zs f pos pv (.slice none 0 0) ps [] wr by rw [← hpos, ← hps]; exact HS.out)
      have HPL := Lib.hid (show ps.length = k by rw [← hps]; exact rdPs_length _ _ _ _ _)
      have HNX := Lib.hid (show rdPs f (1 + (N : Int)) (nLe f) (k + 1) 10 = (ps ++ [(rdP f (1 + (N : Int)) (nLe f) pos).1], (rdP f (1 + (N : Int)) (nLe f) pos).2) by rw [← hpos, ← hps]; rfl)
      obtain ⟨M, hM⟩ : ∃ M : Nat, f pos % 6 = (M : Int) := ⟨(f pos % 6).toNat, by have := modk (f pos) (k := 6) (by omega); omega⟩
      have hM6 : M < 6 := by have := modk (f pos) (k := 6) (by omega); omega
      have HRP := Lib.hid (show rdP f (1 + (N : Int)) (nLe f) pos = rdIs f (1 + (N : Int)) (nLe f) M (pos + 1) by unfold rdP; rw [hM, Int.toNat_natCast])
      have HM := Lib.hid hM
      clear hpos hps hM HS
      go_wp2_with fail
      refine (next_any HS2.out.rd _ (by omega) (by omega)).mono ?_
      rintro e w4 ⟨rfl, hr, hb⟩
      rw [HFF.out, HM.out]
      have HS3 := Lib.hid (HS2.out.read hr hb)
      have hg4 : g < w4.heap.size := hr.lt
      have hI0 : InSt Rdr w4 w.heap.size g zs (pos + 1) (.slice none 0 0) [] w4 := ⟨hr, Fr.refl _ _, OwnT.nil _ _ _⟩
      have HI0 := Lib.hid hI0
      have hlt4 := hb.size
      clear hr hb HS2 hI0
      go_wp2_with fail
      go_loopw [6, 19] (fun p i wr => InR Rdr w4 w.heap.size g zs f (1 + (N : Int)) (pos + 1) M p i wr) (fun _ i _ => M - (intOf i).toNat)
      case atStart => exact ⟨0, by omega, rfl, HI0.out⟩
      case round =>
        obtain ⟨j, hj, rfl, hin⟩ := hrel
        have HI := Lib.hid hin
        have hfr := hin.fr
        have hcI := HS3.out.c.of_same (hfr.block _ HS3.out.c.lt (by simp; omega))
        have hlt5 := hfr.size
        clear hin HI0
        by_cases hlj : j < M
        · obtain ⟨q, hq⟩ : ∃ q, (rdIs f (1 + (N : Int)) (nLe f) j (pos + 1)).2 = q := ⟨_, rfl⟩
          obtain ⟨l, hl⟩ : ∃ l, (rdIs f (1 + (N : Int)) (nLe f) j (pos + 1)).1 = l := ⟨_, rfl⟩
          obtain ⟨⟨o, u, v⟩, hx⟩ : ∃ x, (rdI f (1 + (N : Int)) (nLe f) q).1 = x := ⟨_, rfl⟩
          have HL := Lib.hid (show l.length = j by rw [← hl]; exact rdIs_length _ _ _ _ _)
          have HX := Lib.hid hx
          have HNI := Lib.hid (show rdIs f (1 + (N : Int)) (nLe f) (j + 1) (pos + 1) = (l ++ [(o, u, v)], (rdI f (1 + (N : Int)) (nLe f) q).2) by rw [← hx, ← hl, ← hq]; rfl)
          have HI2 := Lib.hid (show InSt Rdr w4 w.heap.size g zs q u6 l wr by rw [← hq, ← hl]; exact HI.out)
          have hc1 : wr.cell? ⟨cb, 1, none⟩ = some (.int .i64 (nLe f)) := hcI.at_ 1
          have ho1 := HS3.out.o1
          clear hq hl hx hcI HI hfr
          go_wp2_with fail
          refine (readinstr_any HI2.out.rd _ _ (by omega) (by omega) hle (by omega)).mono ?_
          rintro e w5 ⟨rfl, hr, hb⟩
          rw [HFF.out] at hr
          rw [HFF.out, HX.out]
          have HI3 := Lib.hid ((HI2.out.read hg4 hr hb).alloc stable_rdr (.cells #[.int .i64 o, .int .i64 u, .int .i64 v] 47))
          clear hr hb HI2 hc1
          dsimp only
          go_wp2_with
            (at_builtin
             refine wpList_appT Try.underlying45 info_instr rfl _ _ rfl rfl HI3.out.p rfl (three_new w5 _ o u v) (by rw [HL.out]; omega) HI3.out.fr.size ?_
             intro v6 w6 hown hg6 _
             have HI4 := Lib.hid (HI3.out.add stable_rdr ho1 hg4 hown hg6)
             clear hown hg6 HI3)
          go_roundw
          case rel => exact ⟨j + 1, by omega, by go_num, by rw [HNI.out]; exact HI4.out⟩
          case measure => simp [intOf]; omega
        · obtain rfl : j = M := by omega
          have hS4 := HS3.out.read HI.out.rd hfr
          have hp0 : OwnT wr W2.heap.size 47 u6 (rdP f (1 + (N : Int)) (nLe f) pos).1 := by
            rw [HRP.out]
            exact HI.out.p.mono (by omega)
          obtain ⟨m, hm⟩ : ∃ m, (rdP f (1 + (N : Int)) (nLe f) pos).1.length = m := ⟨_, rfl⟩
          obtain ⟨ua, uc, rfl, _, _⟩ := hp0.formN hm
          clear hm
          have hc9 : wr.cell? ⟨cb, 9, none⟩ = some pv := hcI.at_ 9
          have HS5 := Lib.hid (hS4.alloc stable_rdr (.cells #[.slice ua m uc] 45))
          have HP := Lib.hid (hp0.alloc (.cells #[.slice ua m uc] 45))
          have HU := Lib.hid (show (wr.alloc (.cells #[.slice ua m uc] 45)).cell? ((⟨wr.heap.size, 0, none⟩ : Addr).add 0) = some (.slice ua m uc) from (Blk.made wr 45 #[.slice ua m uc]).at_ 0)
          clear hS4 hp0 HI hfr hcI HS3
          go_wp2_with
            (at_builtin
             refine wpList_appP rfl _ _ rfl rfl HS5.out.pr rfl HU.out HP.out (by rw [HPL.out]; omega) HS5.out.lt ?_
             intro v7 w7 hown hg7 _
             obtain ⟨va, vc, rfl, _, _⟩ := hown.formN (n := k + 1) (by simp [HPL.out])
             have hC7 := HS5.out.at_ (fun x hx => (HS5.out.pr.lt x hx).1) hg7
             have c97 : w7.cell? ⟨cb, 9, none⟩ = some pv := hC7.at_ 9
             have f97 := hC7.free 9
             have HS6 := Lib.hid (HS5.out.addP rfl stable_rdr hown hg7)
             clear hown hg7 hC7 HS5 HP HU hc9)
          go_roundw
          case rel => exact ⟨k + 1, _, by omega, by go_num, by rw [HNX.out]; rw [HRP.out] at HS6 ⊢; exact HS6.out⟩
          case measure => simp [intOf]; omega
    · obtain rfl : k = N + 1 := by omega
      have hq : rdPs f (1 + (N : Int)) (nLe f) (N + 1) 10 = qPr f := by
        unfold qPr
        rw [HNP.out, show (1 + (N : Int)).toNat = N + 1 by omega]
      have hS2 := HS.out
      rw [hq] at hS2
      obtain ⟨pos, hpos⟩ : ∃ pos, (qPr f).2 = pos := ⟨_, rfl⟩
      obtain ⟨M, hM⟩ : ∃ M : Nat, f pos % 6 = (M : Int) := ⟨(f pos % 6).toNat, by have := modk (f pos) (k := 6) (by omega); omega⟩
      have hM6 : M < 6 := by have := modk (f pos) (k := 6) (by omega); omega
      have HSU := Lib.hid (show (decC f).su = rdSs f (1 + (N : Int)) (nLe f) M (pos + 1) by
        show rdSs f (nPr f) (nLe f) (f (qPr f).2 % 6).toNat ((qPr f).2 + 1) = _
        rw [hpos, hM, Int.toNat_natCast, HNP.out])
      rw [hpos] at hS2
      have HS2 := Lib.hid hS2
      have HM := Lib.hid hM
      clear hS2 hM hpos hq HS
      go_wp2_with fail
      refine (next_any HS2.out.rd _ (by omega) (by omega)).mono ?_
      rintro e w8 ⟨rfl, hr, hb⟩
      rw [HFF.out, HM.out]
      have HS3 := Lib.hid (HS2.out.read hr hb)
      clear hr hb HS2
      go_wp2_with fail
      go_loopw [39] (fun i wr => DecS Rdr W2 w.heap.size g cb zs f (1 + (N : Int)) (pos + 1) M pv (qPr f).1 i wr) (fun i _ => M - (intOf i).toNat)
      case atStart => exact ⟨0, _, by omega, rfl, HS3.out⟩
      case round =>
        obtain ⟨k, sv, hk, rfl, hst⟩ := hrel
        have HS := Lib.hid hst
        clear hst HS3
        by_cases hlt : k < M
        · obtain ⟨q, hq⟩ : ∃ q, pos + 1 + 3 * k = q := ⟨_, rfl⟩
          obtain ⟨ss, hss⟩ : ∃ ss, rdSs f (1 + (N : Int)) (nLe f) k (pos + 1) = ss := ⟨_, rfl⟩
          have HL := Lib.hid (show ss.length = k by rw [← hss]; exact rdSs_length _ _ _ _ _)
          have HNI := Lib.hid (show rdSs f (1 + (N : Int)) (nLe f) (k + 1) (pos + 1) = ss ++ [(f q % (1 + (N : Int)), f (q + 1) % nLe f, f (q + 2) % 16)] by rw [← hq, ← hss]; rfl)
          have HQ := Lib.hid (show pos + 1 + 3 * (k + 1) = q + 3 by omega)
          have HS2 := Lib.hid (show DecSt Rdr W2 w.heap.size g cb zs f q pv sv (qPr f).1 ss wr by rw [← hq, ← hss]; exact HS.out)
          have hl2 := HS2.out.lt
          have h13 := HS2.out.o3
          have hc10 : wr.cell? ⟨cb, 10, none⟩ = some sv := HS2.out.c.at_ 10
          have hc1 : wr.cell? ⟨cb, 1, none⟩ = some (.int .i64 (nLe f)) := HS2.out.c.at_ 1
          have HSd := Lib.hid (HS2.out.keep stable_rdr ((Fr.refl [] wr).drew))
          clear hq hss HS
          go_wp2_with fail
          have hS0 : wr.drew.cell? ⟨cb, 1, none⟩ = some (.int .i64 (nLe f)) := HSd.out.c.at_ 1
          have l0 : wr.drew.cell? ⟨cb, 10, none⟩ = some sv := HSd.out.c.at_ 10
          refine wp_region_held_drew (S := (fun w' => w'.cell? ⟨cb, 1, none⟩ = some (.int .i64 (nLe f)))) (by kernel_rfl) hS0 (fun _ => ?_)
          change wpAnyH _ _ _ _ _ 16 #[false, false, false, false, false, false, false, false, false, false, false, false, false, false, false, false] _ (World.drew _)
          refine wpAnyH_take (i := 0) (v := .pointer (some ⟨cb, 10, none⟩)) rfl (by kernel_rfl) (by kernel_rfl) (by kernel_rfl) (fun _ _ _ h => h) (Or.inl ⟨by rfl, fun u hu => by (go_simp)⟩) hS0 ?_
          simp only [List.getElem_toArray, List.getElem_cons_succ, List.getElem_cons_zero, Act.put, List.setIfInBounds_toArray, List.set_cons_zero, List.set_cons_succ]
          refine wpAnyH_take (i := 2) (v := .func (.func 47) #[] #[.pointer (some ⟨g, 0, none⟩)]) rfl (by kernel_rfl) (by kernel_rfl) (by kernel_rfl) (fun _ _ _ h => h) (Or.inl ⟨by rfl, fun u hu => by (go_simp)⟩) hS0 ?_
          simp only [List.getElem_toArray, List.getElem_cons_succ, List.getElem_cons_zero, Act.put, List.setIfInBounds_toArray, List.set_cons_zero, List.set_cons_succ]
          refine wpAnyH_take (i := 3) (v := .int .i64 (1 + (N : Int))) rfl (by kernel_rfl) (by kernel_rfl) (by kernel_rfl) (fun _ _ _ h => h) (Or.inl ⟨by rfl, fun u hu => by (go_simp)⟩) hS0 ?_
          simp only [List.getElem_toArray, List.getElem_cons_succ, List.getElem_cons_zero, Act.put, List.setIfInBounds_toArray, List.set_cons_zero, List.set_cons_succ]
          refine wpAnyH_take (i := 5) (v := .func (.func 47) #[] #[.pointer (some ⟨g, 0, none⟩)]) rfl (by kernel_rfl) (by kernel_rfl) (by kernel_rfl) (fun _ _ _ h => h) (Or.inl ⟨by rfl, fun u hu => by (go_simp)⟩) hS0 ?_
          simp only [List.getElem_toArray, List.getElem_cons_succ, List.getElem_cons_zero, Act.put, List.setIfInBounds_toArray, List.set_cons_zero, List.set_cons_succ]
          refine wpAnyH_take (i := 6) (v := .pointer (some ⟨cb, 1, none⟩)) rfl (by kernel_rfl) (by kernel_rfl) (by kernel_rfl) (fun _ _ _ h => h) (Or.inl ⟨by rfl, fun u hu => by (go_simp)⟩) hS0 ?_
          simp only [List.getElem_toArray, List.getElem_cons_succ, List.getElem_cons_zero, Act.put, List.setIfInBounds_toArray, List.set_cons_zero, List.set_cons_succ]
          refine wpAnyH_take (i := 7) (v := .int .i64 (nLe f)) rfl (by kernel_rfl) (by kernel_rfl) (by kernel_rfl) (fun _ _ _ h => h) (Or.inl ⟨by rfl, fun u hu => by (go_simp)⟩) hS0 ?_
          simp only [List.getElem_toArray, List.getElem_cons_succ, List.getElem_cons_zero, Act.put, List.setIfInBounds_toArray, List.set_cons_zero, List.set_cons_succ]
          refine wpAnyH_take (i := 9) (v := .func (.func 47) #[] #[.pointer (some ⟨g, 0, none⟩)]) rfl (by kernel_rfl) (by kernel_rfl) (by kernel_rfl) (fun _ _ _ h => h) (Or.inl ⟨by rfl, fun u hu => by (go_simp)⟩) hS0 ?_
          simp only [List.getElem_toArray, List.getElem_cons_succ, List.getElem_cons_zero, Act.put, List.setIfInBounds_toArray, List.set_cons_zero, List.set_cons_succ]
          refine wpAnyH_ready (rs := [1, 4]) (by kernel_rfl) (by simp) ?_
          refine AllReadyH.cons rfl (fun K hK => ?_) (AllReadyH.cons rfl (fun K hK => ?_) AllReadyH.nil)
          · go_simp
            refine hK.out _ _ hS0 (fun _ => ?_)
            clear hK K
            simp only [List.setIfInBounds_toArray, List.set_cons_zero, List.set_cons_succ]
            refine wpAnyH_ready (rs := [4]) (by kernel_rfl) (by simp) ?_
            refine AllReadyH.cons rfl (fun K hK => ?_) AllReadyH.nil
            go_simp
            go_at_call 47
            (with_reducible refine (next_any HSd.out.rd _ (by omega) (by omega)).mono ?_)
            rintro e y1 ⟨rfl, hr, hb⟩
            rw [HFF.out]
            have HS3 := Lib.hid (HSd.out.read hr hb)
            have k1 : y1.cell? ⟨cb, 1, none⟩ = some (.int .i64 (nLe f)) := HS3.out.c.at_ 1
            have l1 : y1.cell? ⟨cb, 10, none⟩ = some sv := HS3.out.c.at_ 10
            clear hr hb
            refine hK.out _ _ k1 (fun _ => ?_)
            clear hK K
            simp only [List.setIfInBounds_toArray, List.set_cons_zero, List.set_cons_succ]
            refine wpAnyH_ready (rs := [8]) (by kernel_rfl) (by simp) ?_
            refine AllReadyH.cons rfl (fun K hK => ?_) AllReadyH.nil
            go_simp
            go_at_call 47
            (with_reducible refine (next_any HS3.out.rd _ (by omega) (by omega)).mono ?_)
            rintro e y2 ⟨rfl, hr, hb⟩
            rw [HFF.out]
            have HS4 := Lib.hid (HS3.out.read hr hb)
            have k2 : y2.cell? ⟨cb, 1, none⟩ = some (.int .i64 (nLe f)) := HS4.out.c.at_ 1
            have l2 : y2.cell? ⟨cb, 10, none⟩ = some sv := HS4.out.c.at_ 10
            clear hr hb
            refine hK.out _ _ k2 (fun _ => ?_)
            clear hK K
            simp only [List.setIfInBounds_toArray, List.set_cons_zero, List.set_cons_succ]
            refine wpAnyH_ready (rs := [10]) (by kernel_rfl) (by simp) ?_
            refine AllReadyH.cons rfl (fun K hK => ?_) AllReadyH.nil
            go_simp
            go_at_call 47
            (with_reducible refine (next_any HS4.out.rd _ (by omega) (by omega)).mono ?_)
            rintro e y3 ⟨rfl, hr, hb⟩
            rw [HFF.out]
            have HS5 := Lib.hid (HS4.out.read hr hb)
            have k3 : y3.cell? ⟨cb, 1, none⟩ = some (.int .i64 (nLe f)) := HS5.out.c.at_ 1
            have l3 : y3.cell? ⟨cb, 10, none⟩ = some sv := HS5.out.c.at_ 10
            clear hr hb
            refine hK.out _ _ k3 (fun _ => ?_)
            clear hK K
            simp only [List.setIfInBounds_toArray, List.set_cons_zero, List.set_cons_succ]
            refine wpAnyH_take (i := 11) (v := .agg #[.int .i64 (f q % (1 + (N : Int))), .int .i64 (f (q + 1) % nLe f), .int .i64 (f (q + 1 + 1) % 16)]) rfl (by kernel_rfl) (by kernel_rfl) (by kernel_rfl) (fun _ _ _ h => h) (Or.inl ⟨by rfl, fun u hu => by (go_simp)⟩) k3 ?_
            simp only [List.getElem_toArray, List.getElem_cons_succ, List.getElem_cons_zero, Act.put, List.setIfInBounds_toArray, List.set_cons_zero, List.set_cons_succ]
            refine wpAnyH_ready (rs := [12]) (by kernel_rfl) (by simp) ?_
            refine AllReadyH.cons rfl (fun K hK => ?_) AllReadyH.nil
            go_simp
            have HS6 := Lib.hid (HS5.out.alloc stable_rdr (.cells #[.int .i64 (f q % (1 + (N : Int))), .int .i64 (f (q + 1) % nLe f), .int .i64 (f (q + 1 + 1) % 16)] 49))
            have k4 : (y3.alloc (.cells #[.int .i64 (f q % (1 + (N : Int))), .int .i64 (f (q + 1) % nLe f), .int .i64 (f (q + 1 + 1) % 16)] 49)).cell? ⟨cb, 1, none⟩ = some (.int .i64 (nLe f)) := HS6.out.c.at_ 1
            have l4 : (y3.alloc (.cells #[.int .i64 (f q % (1 + (N : Int))), .int .i64 (f (q + 1) % nLe f), .int .i64 (f (q + 1 + 1) % 16)] 49)).cell? ⟨cb, 10, none⟩ = some sv := HS6.out.c.at_ 10
            refine hK.out _ _ k4 (fun _ => ?_)
            clear hK K
            simp only [List.setIfInBounds_toArray, List.set_cons_zero, List.set_cons_succ]
            refine wpAnyH_ready (rs := [13]) (by kernel_rfl) (by simp) ?_
            refine AllReadyH.cons rfl (fun K hK => ?_) AllReadyH.nil
            refine step_appT Try.underlying23 info_sub rfl _ _ rfl rfl HS6.out.su rfl (three_new y3 _ _ _ _) (by rw [HL.out]; omega) HS6.out.lt ?_
            intro v7 w7 hown hg7
            obtain ⟨va, vc, rfl, _, _⟩ := hown.formN (n := k + 1) (by simp [HL.out])
            have hC7 := HS6.out.at_ (fun x hx => (HS6.out.su.lt x hx).1) hg7
            have c7 : w7.cell? ⟨cb, 10, none⟩ = some sv := hC7.at_ 10
            have c71 : w7.cell? ⟨cb, 1, none⟩ = some (.int .i64 (nLe f)) := hC7.at_ 1
            have f7 := hC7.free 10
            have HS7 := Lib.hid (HS6.out.addS stable_rdr hown hg7)
            have k71 : (w7.setCell ⟨cb, 10, none⟩ (.slice va (k + 1) vc)).cell? ⟨cb, 1, none⟩ = some (.int .i64 (nLe f)) := HS7.out.c.at_ 1
            clear hown hg7 hC7
            refine hK.out _ _ c71 (fun _ => ?_)
            clear hK K
            simp only [List.getElem_toArray, List.getElem_cons_succ, List.getElem_cons_zero, Act.put, List.setIfInBounds_toArray, List.set_cons_zero, List.set_cons_succ]
            refine wpAnyH_take (i := 14) (v := .pointer (some ⟨cb, 10, none⟩)) rfl (by kernel_rfl) (by kernel_rfl) (by kernel_rfl) (fun _ _ _ h => h) (Or.inl ⟨by rfl, fun u hu => by (go_simp)⟩) c71 ?_
            simp only [List.getElem_toArray, List.getElem_cons_succ, List.getElem_cons_zero, Act.put, List.setIfInBounds_toArray, List.set_cons_zero, List.set_cons_succ]
            refine wpAnyH_ready (rs := [15]) (by kernel_rfl) (by simp) ?_
            refine AllReadyH.cons rfl (fun K hK => ?_) AllReadyH.nil
            go_simp
            refine hK.out _ _ k71 (fun _ => ?_)
            clear hK K
            simp only [List.setIfInBounds_toArray, List.set_cons_zero, List.set_cons_succ]
            refine wpAnyH_done (by kernel_rfl) ?_ _
            go_wp2_with fail
            go_roundw
            case rel => exact ⟨k + 1, _, by omega, by go_num, by rw [HQ.out, HNI.out]; exact HS7.out⟩
            case measure => simp [intOf]; omega
          · go_simp
            go_at_call 47
            (with_reducible refine (next_any HSd.out.rd _ (by omega) (by omega)).mono ?_)
            rintro e y1 ⟨rfl, hr, hb⟩
            rw [HFF.out]
            have HS3 := Lib.hid (HSd.out.read hr hb)
            have k1 : y1.cell? ⟨cb, 1, none⟩ = some (.int .i64 (nLe f)) := HS3.out.c.at_ 1
            have l1 : y1.cell? ⟨cb, 10, none⟩ = some sv := HS3.out.c.at_ 10
            clear hr hb
            refine hK.out _ _ k1 (fun _ => ?_)
            clear hK K
            simp only [List.setIfInBounds_toArray, List.set_cons_zero, List.set_cons_succ]
            refine wpAnyH_ready (rs := [1, 8]) (by kernel_rfl) (by simp) ?_
            refine AllReadyH.cons rfl (fun K hK => ?_) (AllReadyH.cons rfl (fun K hK => ?_) AllReadyH.nil)
            · go_simp
              refine hK.out _ _ k1 (fun _ => ?_)
              clear hK K
              simp only [List.setIfInBounds_toArray, List.set_cons_zero, List.set_cons_succ]
              refine wpAnyH_ready (rs := [8]) (by kernel_rfl) (by simp) ?_
              refine AllReadyH.cons rfl (fun K hK => ?_) AllReadyH.nil
              go_simp
              go_at_call 47
              (with_reducible refine (next_any HS3.out.rd _ (by omega) (by omega)).mono ?_)
              rintro e y2 ⟨rfl, hr, hb⟩
              rw [HFF.out]
              have HS4 := Lib.hid (HS3.out.read hr hb)
              have k2 : y2.cell? ⟨cb, 1, none⟩ = some (.int .i64 (nLe f)) := HS4.out.c.at_ 1
              have l2 : y2.cell? ⟨cb, 10, none⟩ = some sv := HS4.out.c.at_ 10
              clear hr hb
              refine hK.out _ _ k2 (fun _ => ?_)
              clear hK K
              simp only [List.setIfInBounds_toArray, List.set_cons_zero, List.set_cons_succ]
              refine wpAnyH_ready (rs := [10]) (by kernel_rfl) (by simp) ?_
              refine AllReadyH.cons rfl (fun K hK => ?_) AllReadyH.nil
              go_simp
              go_at_call 47
              (with_reducible refine (next_any HS4.out.rd _ (by omega) (by omega)).mono ?_)
              rintro e y3 ⟨rfl, hr, hb⟩
              rw [HFF.out]
              have HS5 := Lib.hid (HS4.out.read hr hb)
              have k3 : y3.cell? ⟨cb, 1, none⟩ = some (.int .i64 (nLe f)) := HS5.out.c.at_ 1
              have l3 : y3.cell? ⟨cb, 10, none⟩ = some sv := HS5.out.c.at_ 10
              clear hr hb
              refine hK.out _ _ k3 (fun _ => ?_)
              clear hK K
              simp only [List.setIfInBounds_toArray, List.set_cons_zero, List.set_cons_succ]
              refine wpAnyH_take (i := 11) (v := .agg #[.int .i64 (f q % (1 + (N : Int))), .int .i64 (f (q + 1) % nLe f), .int .i64 (f (q + 1 + 1) % 16)]) rfl (by kernel_rfl) (by kernel_rfl) (by kernel_rfl) (fun _ _ _ h => h) (Or.inl ⟨by rfl, fun u hu => by (go_simp)⟩) k3 ?_
              simp only [List.getElem_toArray, List.getElem_cons_succ, List.getElem_cons_zero, Act.put, List.setIfInBounds_toArray, List.set_cons_zero, List.set_cons_succ]
              refine wpAnyH_ready (rs := [12]) (by kernel_rfl) (by simp) ?_
              refine AllReadyH.cons rfl (fun K hK => ?_) AllReadyH.nil
              go_simp
              have HS6 := Lib.hid (HS5.out.alloc stable_rdr (.cells #[.int .i64 (f q % (1 + (N : Int))), .int .i64 (f (q + 1) % nLe f), .int .i64 (f (q + 1 + 1) % 16)] 49))
              have k4 : (y3.alloc (.cells #[.int .i64 (f q % (1 + (N : Int))), .int .i64 (f (q + 1) % nLe f), .int .i64 (f (q + 1 + 1) % 16)] 49)).cell? ⟨cb, 1, none⟩ = some (.int .i64 (nLe f)) := HS6.out.c.at_ 1
              have l4 : (y3.alloc (.cells #[.int .i64 (f q % (1 + (N : Int))), .int .i64 (f (q + 1) % nLe f), .int .i64 (f (q + 1 + 1) % 16)] 49)).cell? ⟨cb, 10, none⟩ = some sv := HS6.out.c.at_ 10
              refine hK.out _ _ k4 (fun _ => ?_)
              clear hK K
              simp only [List.setIfInBounds_toArray, List.set_cons_zero, List.set_cons_succ]
              refine wpAnyH_ready (rs := [13]) (by kernel_rfl) (by simp) ?_
              refine AllReadyH.cons rfl (fun K hK => ?_) AllReadyH.nil
              refine step_appT Try.underlying23 info_sub rfl _ _ rfl rfl HS6.out.su rfl (three_new y3 _ _ _ _) (by rw [HL.out]; omega) HS6.out.lt ?_
              intro v7 w7 hown hg7
              obtain ⟨va, vc, rfl, _, _⟩ := hown.formN (n := k + 1) (by simp [HL.out])
              have hC7 := HS6.out.at_ (fun x hx => (HS6.out.su.lt x hx).1) hg7
              have c7 : w7.cell? ⟨cb, 10, none⟩ = some sv := hC7.at_ 10
              have c71 : w7.cell? ⟨cb, 1, none⟩ = some (.int .i64 (nLe f)) := hC7.at_ 1
              have f7 := hC7.free 10
              have HS7 := Lib.hid (HS6.out.addS stable_rdr hown hg7)
              have k71 : (w7.setCell ⟨cb, 10, none⟩ (.slice va (k + 1) vc)).cell? ⟨cb, 1, none⟩ = some (.int .i64 (nLe f)) := HS7.out.c.at_ 1
              clear hown hg7 hC7
              refine hK.out _ _ c71 (fun _ => ?_)
              clear hK K
              simp only [List.getElem_toArray, List.getElem_cons_succ, List.getElem_cons_zero, Act.put, List.setIfInBounds_toArray, List.set_cons_zero, List.set_cons_succ]
              refine wpAnyH_take (i := 14) (v := .pointer (some ⟨cb, 10, none⟩)) rfl (by kernel_rfl) (by kernel_rfl) (by kernel_rfl) (fun _ _ _ h => h) (Or.inl ⟨by rfl, fun u hu => by (go_simp)⟩) c71 ?_
              simp only [List.getElem_toArray, List.getElem_cons_succ, List.getElem_cons_zero, Act.put, List.setIfInBounds_toArray, List.set_cons_zero, List.set_cons_succ]
              refine wpAnyH_ready (rs := [15]) (by kernel_rfl) (by simp) ?_
              refine AllReadyH.cons rfl (fun K hK => ?_) AllReadyH.nil
              go_simp
              refine hK.out _ _ k71 (fun _ => ?_)
              clear hK K
              simp only [List.setIfInBounds_toArray, List.set_cons_zero, List.set_cons_succ]
              refine wpAnyH_done (by kernel_rfl) ?_ _
              go_wp2_with fail
              go_roundw
              case rel => exact ⟨k + 1, _, by omega, by go_num, by rw [HQ.out, HNI.out]; exact HS7.out⟩
              case measure => simp [intOf]; omega
            · go_simp
              go_at_call 47
              (with_reducible refine (next_any HS3.out.rd _ (by omega) (by omega)).mono ?_)
              rintro e y2 ⟨rfl, hr, hb⟩
              rw [HFF.out]
              have HS4 := Lib.hid (HS3.out.read hr hb)
              have k2 : y2.cell? ⟨cb, 1, none⟩ = some (.int .i64 (nLe f)) := HS4.out.c.at_ 1
              have l2 : y2.cell? ⟨cb, 10, none⟩ = some sv := HS4.out.c.at_ 10
              clear hr hb
              refine hK.out _ _ k2 (fun _ => ?_)
              clear hK K
              simp only [List.setIfInBounds_toArray, List.set_cons_zero, List.set_cons_succ]
              refine wpAnyH_ready (rs := [1, 10]) (by kernel_rfl) (by simp) ?_
              refine AllReadyH.cons rfl (fun K hK => ?_) (AllReadyH.cons rfl (fun K hK => ?_) AllReadyH.nil)
              · go_simp
                refine hK.out _ _ k2 (fun _ => ?_)
                clear hK K
                simp only [List.setIfInBounds_toArray, List.set_cons_zero, List.set_cons_succ]
                refine wpAnyH_ready (rs := [10]) (by kernel_rfl) (by simp) ?_
                refine AllReadyH.cons rfl (fun K hK => ?_) AllReadyH.nil
                go_simp
                go_at_call 47
                (with_reducible refine (next_any HS4.out.rd _ (by omega) (by omega)).mono ?_)
                rintro e y3 ⟨rfl, hr, hb⟩
                rw [HFF.out]
                have HS5 := Lib.hid (HS4.out.read hr hb)
                have k3 : y3.cell? ⟨cb, 1, none⟩ = some (.int .i64 (nLe f)) := HS5.out.c.at_ 1
                have l3 : y3.cell? ⟨cb, 10, none⟩ = some sv := HS5.out.c.at_ 10
                clear hr hb
                refine hK.out _ _ k3 (fun _ => ?_)
                clear hK K
                simp only [List.setIfInBounds_toArray, List.set_cons_zero, List.set_cons_succ]
                refine wpAnyH_take (i := 11) (v := .agg #[.int .i64 (f q % (1 + (N : Int))), .int .i64 (f (q + 1) % nLe f), .int .i64 (f (q + 1 + 1) % 16)]) rfl (by kernel_rfl) (by kernel_rfl) (by kernel_rfl) (fun _ _ _ h => h) (Or.inl ⟨by rfl, fun u hu => by (go_simp)⟩) k3 ?_
                simp only [List.getElem_toArray, List.getElem_cons_succ, List.getElem_cons_zero, Act.put, List.setIfInBounds_toArray, List.set_cons_zero, List.set_cons_succ]
                refine wpAnyH_ready (rs := [12]) (by kernel_rfl) (by simp) ?_
                refine AllReadyH.cons rfl (fun K hK => ?_) AllReadyH.nil
                go_simp
                have HS6 := Lib.hid (HS5.out.alloc stable_rdr (.cells #[.int .i64 (f q % (1 + (N : Int))), .int .i64 (f (q + 1) % nLe f), .int .i64 (f (q + 1 + 1) % 16)] 49))
                have k4 : (y3.alloc (.cells #[.int .i64 (f q % (1 + (N : Int))), .int .i64 (f (q + 1) % nLe f), .int .i64 (f (q + 1 + 1) % 16)] 49)).cell? ⟨cb, 1, none⟩ = some (.int .i64 (nLe f)) := HS6.out.c.at_ 1
                have l4 : (y3.alloc (.cells #[.int .i64 (f q % (1 + (N : Int))), .int .i64 (f (q + 1) % nLe f), .int .i64 (f (q + 1 + 1) % 16)] 49)).cell? ⟨cb, 10, none⟩ = some sv := HS6.out.c.at_ 10
                refine hK.out _ _ k4 (fun _ => ?_)
                clear hK K
                simp only [List.setIfInBounds_toArray, List.set_cons_zero, List.set_cons_succ]
                refine wpAnyH_ready (rs := [13]) (by kernel_rfl) (by simp) ?_
                refine AllReadyH.cons rfl (fun K hK => ?_) AllReadyH.nil
                refine step_appT Try.underlying23 info_sub rfl _ _ rfl rfl HS6.out.su rfl (three_new y3 _ _ _ _) (by rw [HL.out]; omega) HS6.out.lt ?_
                intro v7 w7 hown hg7
                obtain ⟨va, vc, rfl, _, _⟩ := hown.formN (n := k + 1) (by simp [HL.out])
                have hC7 := HS6.out.at_ (fun x hx => (HS6.out.su.lt x hx).1) hg7
                have c7 : w7.cell? ⟨cb, 10, none⟩ = some sv := hC7.at_ 10
                have c71 : w7.cell? ⟨cb, 1, none⟩ = some (.int .i64 (nLe f)) := hC7.at_ 1
                have f7 := hC7.free 10
                have HS7 := Lib.hid (HS6.out.addS stable_rdr hown hg7)
                have k71 : (w7.setCell ⟨cb, 10, none⟩ (.slice va (k + 1) vc)).cell? ⟨cb, 1, none⟩ = some (.int .i64 (nLe f)) := HS7.out.c.at_ 1
                clear hown hg7 hC7
                refine hK.out _ _ c71 (fun _ => ?_)
                clear hK K
                simp only [List.getElem_toArray, List.getElem_cons_succ, List.getElem_cons_zero, Act.put, List.setIfInBounds_toArray, List.set_cons_zero, List.set_cons_succ]
                refine wpAnyH_take (i := 14) (v := .pointer (some ⟨cb, 10, none⟩)) rfl (by kernel_rfl) (by kernel_rfl) (by kernel_rfl) (fun _ _ _ h => h) (Or.inl ⟨by rfl, fun u hu => by (go_simp)⟩) c71 ?_
                simp only [List.getElem_toArray, List.getElem_cons_succ, List.getElem_cons_zero, Act.put, List.setIfInBounds_toArray, List.set_cons_zero, List.set_cons_succ]
                refine wpAnyH_ready (rs := [15]) (by kernel_rfl) (by simp) ?_
                refine AllReadyH.cons rfl (fun K hK => ?_) AllReadyH.nil
                go_simp
                refine hK.out _ _ k71 (fun _ => ?_)
                clear hK K
                simp only [List.setIfInBounds_toArray, List.set_cons_zero, List.set_cons_succ]
                refine wpAnyH_done (by kernel_rfl) ?_ _
                go_wp2_with fail
                go_roundw
                case rel => exact ⟨k + 1, _, by omega, by go_num, by rw [HQ.out, HNI.out]; exact HS7.out⟩
                case measure => simp [intOf]; omega
              · go_simp
                go_at_call 47
                (with_reducible refine (next_any HS4.out.rd _ (by omega) (by omega)).mono ?_)
                rintro e y3 ⟨rfl, hr, hb⟩
                rw [HFF.out]
                have HS5 := Lib.hid (HS4.out.read hr hb)
                have k3 : y3.cell? ⟨cb, 1, none⟩ = some (.int .i64 (nLe f)) := HS5.out.c.at_ 1
                have l3 : y3.cell? ⟨cb, 10, none⟩ = some sv := HS5.out.c.at_ 10
                clear hr hb
                refine hK.out _ _ k3 (fun _ => ?_)
                clear hK K
                simp only [List.setIfInBounds_toArray, List.set_cons_zero, List.set_cons_succ]
                refine wpAnyH_take (i := 11) (v := .agg #[.int .i64 (f q % (1 + (N : Int))), .int .i64 (f (q + 1) % nLe f), .int .i64 (f (q + 1 + 1) % 16)]) rfl (by kernel_rfl) (by kernel_rfl) (by kernel_rfl) (fun _ _ _ h => h) (Or.inl ⟨by rfl, fun u hu => by (go_simp)⟩) k3 ?_
                simp only [List.getElem_toArray, List.getElem_cons_succ, List.getElem_cons_zero, Act.put, List.setIfInBounds_toArray, List.set_cons_zero, List.set_cons_succ]
                refine wpAnyH_ready (rs := [1, 12]) (by kernel_rfl) (by simp) ?_
                refine AllReadyH.cons rfl (fun K hK => ?_) (AllReadyH.cons rfl (fun K hK => ?_) AllReadyH.nil)
                · go_simp
                  refine hK.out _ _ k3 (fun _ => ?_)
                  clear hK K
                  simp only [List.setIfInBounds_toArray, List.set_cons_zero, List.set_cons_succ]
                  refine wpAnyH_ready (rs := [12]) (by kernel_rfl) (by simp) ?_
                  refine AllReadyH.cons rfl (fun K hK => ?_) AllReadyH.nil
                  go_simp
                  have HS6 := Lib.hid (HS5.out.alloc stable_rdr (.cells #[.int .i64 (f q % (1 + (N : Int))), .int .i64 (f (q + 1) % nLe f), .int .i64 (f (q + 1 + 1) % 16)] 49))
                  have k4 : (y3.alloc (.cells #[.int .i64 (f q % (1 + (N : Int))), .int .i64 (f (q + 1) % nLe f), .int .i64 (f (q + 1 + 1) % 16)] 49)).cell? ⟨cb, 1, none⟩ = some (.int .i64 (nLe f)) := HS6.out.c.at_ 1
                  have l4 : (y3.alloc (.cells #[.int .i64 (f q % (1 + (N : Int))), .int .i64 (f (q + 1) % nLe f), .int .i64 (f (q + 1 + 1) % 16)] 49)).cell? ⟨cb, 10, none⟩ = some sv := HS6.out.c.at_ 10
                  refine hK.out _ _ k4 (fun _ => ?_)
                  clear hK K
                  simp only [List.setIfInBounds_toArray, List.set_cons_zero, List.set_cons_succ]
                  refine wpAnyH_ready (rs := [13]) (by kernel_rfl) (by simp) ?_
                  refine AllReadyH.cons rfl (fun K hK => ?_) AllReadyH.nil
                  refine step_appT Try.underlying23 info_sub rfl _ _ rfl rfl HS6.out.su rfl (three_new y3 _ _ _ _) (by rw [HL.out]; omega) HS6.out.lt ?_
                  intro v7 w7 hown hg7
                  obtain ⟨va, vc, rfl, _, _⟩ := hown.formN (n := k + 1) (by simp [HL.out])
                  have hC7 := HS6.out.at_ (fun x hx => (HS6.out.su.lt x hx).1) hg7
                  have c7 : w7.cell? ⟨cb, 10, none⟩ = some sv := hC7.at_ 10
                  have c71 : w7.cell? ⟨cb, 1, none⟩ = some (.int .i64 (nLe f)) := hC7.at_ 1
                  have f7 := hC7.free 10
                  have HS7 := Lib.hid (HS6.out.addS stable_rdr hown hg7)
                  have k71 : (w7.setCell ⟨cb, 10, none⟩ (.slice va (k + 1) vc)).cell? ⟨cb, 1, none⟩ = some (.int .i64 (nLe f)) := HS7.out.c.at_ 1
                  clear hown hg7 hC7
                  refine hK.out _ _ c71 (fun _ => ?_)
                  clear hK K
                  simp only [List.getElem_toArray, List.getElem_cons_succ, List.getElem_cons_zero, Act.put, List.setIfInBounds_toArray, List.set_cons_zero, List.set_cons_succ]
                  refine wpAnyH_take (i := 14) (v := .pointer (some ⟨cb, 10, none⟩)) rfl (by kernel_rfl) (by kernel_rfl) (by kernel_rfl) (fun _ _ _ h => h) (Or.inl ⟨by rfl, fun u hu => by (go_simp)⟩) c71 ?_
                  simp only [List.getElem_toArray, List.getElem_cons_succ, List.getElem_cons_zero, Act.put, List.setIfInBounds_toArray, List.set_cons_zero, List.set_cons_succ]
                  refine wpAnyH_ready (rs := [15]) (by kernel_rfl) (by simp) ?_
                  refine AllReadyH.cons rfl (fun K hK => ?_) AllReadyH.nil
                  go_simp
                  refine hK.out _ _ k71 (fun _ => ?_)
                  clear hK K
                  simp only [List.setIfInBounds_toArray, List.set_cons_zero, List.set_cons_succ]
                  refine wpAnyH_done (by kernel_rfl) ?_ _
                  go_wp2_with fail
                  go_roundw
                  case rel => exact ⟨k + 1, _, by omega, by go_num, by rw [HQ.out, HNI.out]; exact HS7.out⟩
                  case measure => simp [intOf]; omega
                · go_simp
                  have HS6 := Lib.hid (HS5.out.alloc stable_rdr (.cells #[.int .i64 (f q % (1 + (N : Int))), .int .i64 (f (q + 1) % nLe f), .int .i64 (f (q + 1 + 1) % 16)] 49))
                  have k4 : (y3.alloc (.cells #[.int .i64 (f q % (1 + (N : Int))), .int .i64 (f (q + 1) % nLe f), .int .i64 (f (q + 1 + 1) % 16)] 49)).cell? ⟨cb, 1, none⟩ = some (.int .i64 (nLe f)) := HS6.out.c.at_ 1
                  have l4 : (y3.alloc (.cells #[.int .i64 (f q % (1 + (N : Int))), .int .i64 (f (q + 1) % nLe f), .int .i64 (f (q + 1 + 1) % 16)] 49)).cell? ⟨cb, 10, none⟩ = some sv := HS6.out.c.at_ 10
                  refine hK.out _ _ k4 (fun _ => ?_)
                  clear hK K
                  simp only [List.setIfInBounds_toArray, List.set_cons_zero, List.set_cons_succ]
                  refine wpAnyH_ready (rs := [1]) (by kernel_rfl) (by simp) ?_
                  refine AllReadyH.cons rfl (fun K hK => ?_) AllReadyH.nil
                  go_simp
                  refine hK.out _ _ k4 (fun _ => ?_)
                  clear hK K
                  simp only [List.setIfInBounds_toArray, List.set_cons_zero, List.set_cons_succ]
                  refine wpAnyH_ready (rs := [13]) (by kernel_rfl) (by simp) ?_
                  refine AllReadyH.cons rfl (fun K hK => ?_) AllReadyH.nil
                  refine step_appT Try.underlying23 info_sub rfl _ _ rfl rfl HS6.out.su rfl (three_new y3 _ _ _ _) (by rw [HL.out]; omega) HS6.out.lt ?_
                  intro v7 w7 hown hg7
                  obtain ⟨va, vc, rfl, _, _⟩ := hown.formN (n := k + 1) (by simp [HL.out])
                  have hC7 := HS6.out.at_ (fun x hx => (HS6.out.su.lt x hx).1) hg7
                  have c7 : w7.cell? ⟨cb, 10, none⟩ = some sv := hC7.at_ 10
                  have c71 : w7.cell? ⟨cb, 1, none⟩ = some (.int .i64 (nLe f)) := hC7.at_ 1
                  have f7 := hC7.free 10
                  have HS7 := Lib.hid (HS6.out.addS stable_rdr hown hg7)
                  have k71 : (w7.setCell ⟨cb, 10, none⟩ (.slice va (k + 1) vc)).cell? ⟨cb, 1, none⟩ = some (.int .i64 (nLe f)) := HS7.out.c.at_ 1
                  clear hown hg7 hC7
                  refine hK.out _ _ c71 (fun _ => ?_)
                  clear hK K
                  simp only [List.getElem_toArray, List.getElem_cons_succ, List.getElem_cons_zero, Act.put, List.setIfInBounds_toArray, List.set_cons_zero, List.set_cons_succ]
                  refine wpAnyH_take (i := 14) (v := .pointer (some ⟨cb, 10, none⟩)) rfl (by kernel_rfl) (by kernel_rfl) (by kernel_rfl) (fun _ _ _ h => h) (Or.inl ⟨by rfl, fun u hu => by (go_simp)⟩) c71 ?_
                  simp only [List.getElem_toArray, List.getElem_cons_succ, List.getElem_cons_zero, Act.put, List.setIfInBounds_toArray, List.set_cons_zero, List.set_cons_succ]
                  refine wpAnyH_ready (rs := [15]) (by kernel_rfl) (by simp) ?_
                  refine AllReadyH.cons rfl (fun K hK => ?_) AllReadyH.nil
                  go_simp
                  refine hK.out _ _ k71 (fun _ => ?_)
                  clear hK K
                  simp only [List.setIfInBounds_toArray, List.set_cons_zero, List.set_cons_succ]
                  refine wpAnyH_done (by kernel_rfl) ?_ _
                  go_wp2_with fail
                  go_roundw
                  case rel => exact ⟨k + 1, _, by omega, by go_num, by rw [HQ.out, HNI.out]; exact HS7.out⟩
                  case measure => simp [intOf]; omega
        · obtain rfl : k = M := by omega
          have hS4 := HS.out
          rw [← HSU.out, ← HFF.out] at hS4
          have HS4 := Lib.hid hS4
          have E := HS.out.c
          obtain ⟨e0, e1, e2, e3, e4, e5, e6, e7, e8, e9, e10⟩ := (⟨E.at_ 0, E.at_ 1, E.at_ 2, E.at_ 3, E.at_ 4, E.at_ 5, E.at_ 6, E.at_ 7, E.at_ 8, E.at_ 9, E.at_ 10⟩ : _ ∧ _ ∧ _ ∧ _ ∧ _ ∧ _ ∧ _ ∧ _ ∧ _ ∧ _ ∧ _)
          simp only [List.getElem?_toArray, List.getElem?_cons_zero, List.getElem?_cons_succ] at e0 e1 e2 e3 e4 e5 e6 e7 e8 e9 e10
          have hwg : w.heap.size < g := by omega
          have D := hS4.res (w0 := w) hwg HD2.out
          have HDD := Lib.hid D
          have d0 := D.at_ 0
          have d1 := D.at_ 1
          have d2 := D.at_ 2
          have d3 := D.at_ 3
          have d4 := D.at_ 4
          have d5 := D.at_ 5
          have d6 := D.at_ 6
          have d7 := D.at_ 7
          have d8 := D.at_ 8
          have d9 := D.at_ 9
          have d10 := D.at_ 10
          have g0 := D.free 0
          have g1 := D.free 1
          have g2 := D.free 2
          have g3 := D.free 3
          have g4 := D.free 4
          have g5 := D.free 5
          have g6 := D.free 6
          have g7 := D.free 7
          have g8 := D.free 8
          have g9 := D.free 9
          have g10 := D.free 10
          obtain ⟨xa, xc, hpv, _, _⟩ := hS4.pr.form
          obtain ⟨ya, yc, hsv, _, _⟩ := hS4.su.form
          obtain ⟨pn, hpn⟩ : ∃ pn, (qPr (strm zs)).1.length = pn := ⟨_, rfl⟩
          obtain ⟨sn, hsn⟩ : ∃ sn, (decC (strm zs)).su.length = sn := ⟨_, rfl⟩
          rw [hpn] at hpv
          rw [hsn] at hsv
          subst hpv hsv
          clear hS4 E D hpn hsn HS
          go_wp2
          have hD := HDD.out.put11 (.int .i64 (1 + f 0 % 4)) (.int .i64 (nLe f)) (.int .i64 (1 + f 2 % min 3 (nLe f))) (.int .i64 (1 + f 3 % 12)) (.int .i64 (nDe f)) (.int .i64 (1 + f 5 % 4)) (.int .i64 (1 + f 6 % nDe f)) (.int .i64 (f 7 % 6)) (.int .i64 (1 + f 8 % 8)) (.slice xa pn xc) (.slice ya sn yc)
          have hF := fr11 wr w.heap.size (.int .i64 (1 + f 0 % 4)) (.int .i64 (nLe f)) (.int .i64 (1 + f 2 % min 3 (nLe f))) (.int .i64 (1 + f 3 % 12)) (.int .i64 (nDe f)) (.int .i64 (1 + f 5 % 4)) (.int .i64 (1 + f 6 % nDe f)) (.int .i64 (f 7 % 6)) (.int .i64 (1 + f 8 % 8)) (.slice xa pn xc) (.slice ya sn yc)
          refine bodyPost_ret (results_cell_row (P := Try.prog) Try.results15 _ _ w.heap.size 25 _ (0, 0) _ rfl hD Try.underlying25 rfl (by kernel_rfl)) rfl ?_
          obtain ⟨r1, r2⟩ := HS4.out.done HF2.out hwg hF
          rw [HFF.out] at r1
          exact ⟨_, rfl, by rw [HFF.out]; exact r1, r2⟩
end Go.Proofs.Ytnpnamgeajifkaa
