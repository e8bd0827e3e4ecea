/-
  Contract of the reference's Decode. (Written by wip/gen_cfrdec.py.)
-/
import Derived.Test.YtgipddeldddbnaaGreatCfRef
import Derived.Deep.CutRange
namespace Go.Proofs.YtgipddeldddbnaaGreat
open Go Go.RowKit

set_option maxRecDepth 100000 in
set_option maxHeartbeats 16000000 in
theorem rdecode_any {w : World} {a : Option Addr} {L : Nat} {zs : List Int} (h : InB w w.heap.size a L zs) (c : Nat) :
    Calls Tryz.prog 16 #[.slice a L c] w (Decoded zs w) := by
  have HZ := Lib.hid (show InB (w.alloc (.cells zero11 30)) w.heap.size a L zs from h.below (Nat.le_refl _) (below_one w _))
  have HF0 := Lib.hid ((Fr.refl [] w).alloc (.cells zero11 30))
  have HD0 := Lib.hid (Blk.made w 30 zero11)
  have hs0 : w.heap.size < (w.alloc (.cells zero11 30)).heap.size := by simp
  obtain ⟨f, hf⟩ : ∃ f, strm zs = f := ⟨_, rfl⟩
  have HFF := Lib.hid hf
  obtain ⟨N, hN⟩ : ∃ N : Nat, f 9 % 4 = (N : Int) := ⟨(f 9 % 4).toNat, by have := mod4 (f 9); omega⟩
  have hN4 : N < 4 := by have := mod4 (f 9); omega
  have HNP := Lib.hid (show nPr f = 1 + (N : Int) by unfold nPr; omega)
  have HN := Lib.hid hN
  obtain ⟨hle, hle'⟩ := nLe_in f
  obtain ⟨hde, hde'⟩ := nDe_in f
  have hLE : 1 + f 1 % 4 = nLe f := rfl
  have hDE : 1 + f 4 % 4 = nDe f := rfl
  have HLE := Lib.hid hLE
  have HDE := Lib.hid hDE
  have m0 := mod4 (f 0)
  have m1 := mod4 (f 1)
  have m3 := modk (f 3) (k := 12) (by omega)
  have m4 := mod4 (f 4)
  have m5 := mod4 (f 5)
  have m6 := modk (f 6) (k := nDe f) (by omega)
  have m7 := modk (f 7) (k := 6) (by omega)
  have m8 := modk (f 8) (k := 8) (by omega)
  clear h hf hN hLE hDE
  have hm : (nLe f < 3 ∧ min 3 (nLe f) = nLe f) ∨ (¬ (nLe f < 3) ∧ min 3 (nLe f) = 3) := by omega
  go_enter Tryz.func16, Tryz.ntmps16
  go_wp2_with fail
  have hblk : Blk ((w.alloc (.cells zero11 30)).alloc (.cells #[.slice a L c, .slice none 0 0, .int .i64 0, .bool false] 93)) (w.heap.size + 1) 93 #[.slice a L c, .slice none 0 0, .int .i64 0, .bool false] := by
    have := Blk.made (w.alloc (.cells zero11 30)) 93 #[.slice a L c, .slice none 0 0, .int .i64 0, .bool false]
    rwa [show (w.alloc (.cells zero11 30)).heap.size = w.heap.size + 1 by simp] at this
  have hc0 : Cdr ((w.alloc (.cells zero11 30)).alloc (.cells #[.slice a L c, .slice none 0 0, .int .i64 0, .bool false] 93)) w.heap.size (w.heap.size + 1) zs 0 :=
    ⟨a, L, c, hblk, HZ.out.below (Nat.le_of_lt hs0) ((Below.refl _ _).alloc (Nat.le_of_lt hs0) _), Nat.le_succ _⟩
  have HR1 := Lib.hid hc0
  have HF1 := Lib.hid (HF0.out.alloc (.cells #[.slice a L c, .slice none 0 0, .int .i64 0, .bool false] 93))
  have HD1 := Lib.hid (HD0.out.alloc (.cells #[.slice a L c, .slice none 0 0, .int .i64 0, .bool false] 93))
  have hgl : w.heap.size + 1 < ((w.alloc (.cells zero11 30)).alloc (.cells #[.slice a L c, .slice none 0 0, .int .i64 0, .bool false] 93)).heap.size := by simp
  have hgw : w.heap.size < w.heap.size + 1 := Nat.lt_succ_self _
  clear hc0 HZ HF0 HD0 hs0 hblk
  generalize (w.alloc (.cells zero11 30)).alloc (.cells #[.slice a L c, .slice none 0 0, .int .i64 0, .bool false] 93) = W1 at *
  generalize w.heap.size + 1 = g at *
  have hB : w.heap.size ≤ g := Nat.le_of_lt hgw
  (with_reducible refine (number_any HR1.out _ (by omega) (by omega) (by omega)).mono ?_)
  rintro e x1 ⟨rfl, hr, hb⟩
  rw [HFF.out]
  have HR2 := Lib.hid hr
  have HF2 := Lib.hid hb
  clear hr hb HR1
  go_wp2_with fail
  (with_reducible refine (number_any HR2.out _ (by omega) (by omega) (by omega)).mono ?_)
  rintro e w2 ⟨rfl, hr, hb⟩
  rw [HFF.out]
  have S2 := Lib.hid (BSt.first (Rd := Cdr) (w0 := W1) (t := 30) stable_cdr hr (HF2.out.trans hb) #[.int .i64 (1 + f 0 % 4), .int .i64 (1 + f 1 % 4), .int .i64 0, .int .i64 0, .int .i64 0, .int .i64 0, .int .i64 0, .int .i64 0, .int .i64 0, .slice none 0 0, .slice none 0 0])
  clear hr hb HR2 HF2
  go_upto_region 3 with fail
  have hcb : W1.heap.size ≤ w2.heap.size := S2.out.new
  generalize w2.alloc (.cells #[.int .i64 (1 + f 0 % 4), .int .i64 (1 + f 1 % 4), .int .i64 0, .int .i64 0, .int .i64 0, .int .i64 0, .int .i64 0, .int .i64 0, .int .i64 0, .slice none 0 0, .slice none 0 0] 30) = w2' at *
  generalize w2.heap.size = cb at *
  go_cut [26] from 22 to 28 (fun _ wx => BSt Cdr 30 W1 w.heap.size g zs 3 cb #[.int .i64 (1 + f 0 % 4), .int .i64 (nLe f), .int .i64 (1 + f 2 % min 3 (nLe f)), .int .i64 0, .int .i64 0, .int .i64 0, .int .i64 0, .int .i64 0, .int .i64 0, .slice none 0 0, .slice none 0 0] wx)
  case first =>
    rcases hm with ⟨hm, hm2⟩ | ⟨hm, hm2⟩
    all_goals
      have HM2 := Lib.hid hm2
      clear hm2
      have hmr := modk (f 2) (k := min 3 (nLe f)) (by omega)
      rw [HM2.out] at hmr
      have hle1 : w2'.cell? ⟨cb, 1, none⟩ = some (.int .i64 (nLe f)) := S2.out.b.at_ 1
      go_wp2_with fail
      (with_reducible refine (number_any S2.out.rd _ (by omega) (by omega) (by omega)).mono ?_)
      rintro e w3 ⟨rfl, hr, hb⟩
      rw [HFF.out]
      obtain ⟨hc2, hf2⟩ : w3.cell? ⟨cb, 2, none⟩ = some (.int .i64 0) ∧ w3.frozen? ⟨cb, 2, none⟩ = false := S2.out.at_ hgl hb 2
      have hst := S2.out.step stable_cdr hgl hB hr hb 2 (.int .i64 (1 + f 2 % min 3 (nLe f)))
      simp only [List.setIfInBounds_toArray, List.set_cons_zero, List.set_cons_succ] at hst
      rw [HM2.out] at hst
      have HST := Lib.hid hst
      clear hr hb hst
      go_wp2_with fail
      go_meet
      case rel =>
        rw [HM2.out]
        first
          | exact HST.out
          | (rw [IntWalk.wrap64_in]
             · exact HST.out
             · omega)
  case rest =>
    have S3 := Lib.hid hcut
    clear hcut S2
    go_wp2_with fail
    (with_reducible refine (number_any S3.out.rd _ (by omega) (by omega) (by omega)).mono ?_)
    rintro e w4 ⟨rfl, hr, hb⟩
    rw [HFF.out]
    obtain ⟨hc3, hf3⟩ : w4.cell? ⟨cb, 3, none⟩ = some (.int .i64 0) ∧ w4.frozen? ⟨cb, 3, none⟩ = false := S3.out.at_ hgl hb 3
    have S4 := Lib.hid (show BSt Cdr 30 W1 w.heap.size g zs 4 cb #[.int .i64 (1 + f 0 % 4), .int .i64 (nLe f), .int .i64 (1 + f 2 % min 3 (nLe f)), .int .i64 (1 + f 3 % 12), .int .i64 0, .int .i64 0, .int .i64 0, .int .i64 0, .int .i64 0, .slice none 0 0, .slice none 0 0] (w4.setCell ⟨cb, 3, none⟩ (.int .i64 (1 + f 3 % 12))) from by
      have hst := S3.out.step stable_cdr hgl hB hr hb 3 (.int .i64 (1 + f 3 % 12))
      simp only [List.setIfInBounds_toArray, List.set_cons_zero, List.set_cons_succ] at hst
      exact hst)
    clear hr hb S3
    go_wp2_with fail
    (with_reducible refine (number_any S4.out.rd _ (by omega) (by omega) (by omega)).mono ?_)
    rintro e w5 ⟨rfl, hr, hb⟩
    rw [HFF.out]
    obtain ⟨hc4, hf4⟩ : w5.cell? ⟨cb, 4, none⟩ = some (.int .i64 0) ∧ w5.frozen? ⟨cb, 4, none⟩ = false := S4.out.at_ hgl hb 4
    have S5 := Lib.hid (show BSt Cdr 30 W1 w.heap.size g zs 5 cb #[.int .i64 (1 + f 0 % 4), .int .i64 (nLe f), .int .i64 (1 + f 2 % min 3 (nLe f)), .int .i64 (1 + f 3 % 12), .int .i64 (nDe f), .int .i64 0, .int .i64 0, .int .i64 0, .int .i64 0, .slice none 0 0, .slice none 0 0] (w5.setCell ⟨cb, 4, none⟩ (.int .i64 (1 + f 4 % 4))) from by
      have hst := S4.out.step stable_cdr hgl hB hr hb 4 (.int .i64 (1 + f 4 % 4))
      simp only [List.setIfInBounds_toArray, List.set_cons_zero, List.set_cons_succ] at hst
      exact hst)
    clear hr hb S4
    clear hc3 hf3
    go_wp2_with fail
    (with_reducible refine (number_any S5.out.rd _ (by omega) (by omega) (by omega)).mono ?_)
    rintro e w6 ⟨rfl, hr, hb⟩
    rw [HFF.out]
    obtain ⟨hc5, hf5⟩ : w6.cell? ⟨cb, 5, none⟩ = some (.int .i64 0) ∧ w6.frozen? ⟨cb, 5, none⟩ = false := S5.out.at_ hgl hb 5
    have S6 := Lib.hid (show BSt Cdr 30 W1 w.heap.size g zs 6 cb #[.int .i64 (1 + f 0 % 4), .int .i64 (nLe f), .int .i64 (1 + f 2 % min 3 (nLe f)), .int .i64 (1 + f 3 % 12), .int .i64 (nDe f), .int .i64 (1 + f 5 % 4), .int .i64 0, .int .i64 0, .int .i64 0, .slice none 0 0, .slice none 0 0] (w6.setCell ⟨cb, 5, none⟩ (.int .i64 (1 + f 5 % 4))) from by
      have hst := S5.out.step stable_cdr hgl hB hr hb 5 (.int .i64 (1 + f 5 % 4))
      simp only [List.setIfInBounds_toArray, List.set_cons_zero, List.set_cons_succ] at hst
      exact hst)
    have hd4 : w6.cell? ⟨cb, 4, none⟩ = some (.int .i64 (nDe f)) := (S5.out.at_ hgl hb 4).1
    clear hr hb S5
    clear hc4 hf4
    go_wp2_with fail
    (with_reducible refine (number_any S6.out.rd _ (by omega) (by omega) (by omega)).mono ?_)
    rintro e w7 ⟨rfl, hr, hb⟩
    rw [HFF.out]
    obtain ⟨hc6, hf6⟩ : w7.cell? ⟨cb, 6, none⟩ = some (.int .i64 0) ∧ w7.frozen? ⟨cb, 6, none⟩ = false := S6.out.at_ hgl hb 6
    have S7 := Lib.hid (show BSt Cdr 30 W1 w.heap.size g zs 7 cb #[.int .i64 (1 + f 0 % 4), .int .i64 (nLe f), .int .i64 (1 + f 2 % min 3 (nLe f)), .int .i64 (1 + f 3 % 12), .int .i64 (nDe f), .int .i64 (1 + f 5 % 4), .int .i64 (1 + f 6 % nDe f), .int .i64 0, .int .i64 0, .slice none 0 0, .slice none 0 0] (w7.setCell ⟨cb, 6, none⟩ (.int .i64 (1 + f 6 % nDe f))) from by
      have hst := S6.out.step stable_cdr hgl hB hr hb 6 (.int .i64 (1 + f 6 % nDe f))
      simp only [List.setIfInBounds_toArray, List.set_cons_zero, List.set_cons_succ] at hst
      exact hst)
    clear hr hb S6
    clear hc5 hf5
    clear hd4
    go_wp2_with fail
    (with_reducible refine (number_any S7.out.rd _ (by omega) (by omega) (by omega)).mono ?_)
    rintro e w8 ⟨rfl, hr, hb⟩
    rw [HFF.out]
    obtain ⟨hc7, hf7⟩ : w8.cell? ⟨cb, 7, none⟩ = some (.int .i64 0) ∧ w8.frozen? ⟨cb, 7, none⟩ = false := S7.out.at_ hgl hb 7
    have S8 := Lib.hid (show BSt Cdr 30 W1 w.heap.size g zs 8 cb #[.int .i64 (1 + f 0 % 4), .int .i64 (nLe f), .int .i64 (1 + f 2 % min 3 (nLe f)), .int .i64 (1 + f 3 % 12), .int .i64 (nDe f), .int .i64 (1 + f 5 % 4), .int .i64 (1 + f 6 % nDe f), .int .i64 (f 7 % 6), .int .i64 0, .slice none 0 0, .slice none 0 0] (w8.setCell ⟨cb, 7, none⟩ (.int .i64 (f 7 % 6))) from by
      have hst := S7.out.step stable_cdr hgl hB hr hb 7 (.int .i64 (f 7 % 6))
      simp only [List.setIfInBounds_toArray, List.set_cons_zero, List.set_cons_succ] at hst
      exact hst)
    clear hr hb S7
    clear hc6 hf6
    go_wp2_with fail
    (with_reducible refine (number_any S8.out.rd _ (by omega) (by omega) (by omega)).mono ?_)
    rintro e w9 ⟨rfl, hr, hb⟩
    rw [HFF.out]
    obtain ⟨hc8, hf8⟩ : w9.cell? ⟨cb, 8, none⟩ = some (.int .i64 0) ∧ w9.frozen? ⟨cb, 8, none⟩ = false := S8.out.at_ hgl hb 8
    have S9 := Lib.hid (show BSt Cdr 30 W1 w.heap.size g zs 9 cb #[.int .i64 (1 + f 0 % 4), .int .i64 (nLe f), .int .i64 (1 + f 2 % min 3 (nLe f)), .int .i64 (1 + f 3 % 12), .int .i64 (nDe f), .int .i64 (1 + f 5 % 4), .int .i64 (1 + f 6 % nDe f), .int .i64 (f 7 % 6), .int .i64 (1 + f 8 % 8), .slice none 0 0, .slice none 0 0] (w9.setCell ⟨cb, 8, none⟩ (.int .i64 (1 + f 8 % 8))) from by
      have hst := S8.out.step stable_cdr hgl hB hr hb 8 (.int .i64 (1 + f 8 % 8))
      simp only [List.setIfInBounds_toArray, List.set_cons_zero, List.set_cons_succ] at hst
      exact hst)
    clear hr hb S8
    clear hc7 hf7
    have E9 := S9.out.b
    go_wp2_with fail
    (with_reducible refine (number_any S9.out.rd _ (by omega) (by omega) (by omega)).mono ?_)
    rintro e W2 ⟨rfl, hr, hb⟩
    rw [HFF.out, HN.out]
    have hC2 : Blk W2 cb 30 (ncells f (.slice none 0 0) (.slice none 0 0)) := E9.of_same (hb.block _ E9.lt (by simp; omega))
    have HF2 := Lib.hid ((HF1.out.drop S9.out.fr (fun x hx => by simp at hx; omega)).drop hb (fun x hx => by simp at hx; omega))
    have HD2 := Lib.hid ((HD1.out.of_same (S9.out.fr.block _ HD1.out.lt (by simp; omega))).of_same (hb.block _ (Nat.lt_of_lt_of_le HD1.out.lt S9.out.fr.size) (by simp; omega)))
    have hS0 : DecSt Cdr W2 w.heap.size g cb zs f 10 (.slice none 0 0) (.slice none 0 0) [] [] W2 :=
      ⟨hr, Fr.refl _ _, hC2, OwnP.nil _ _, OwnT.nil _ _ _, hB, by omega, hC2.lt⟩
    have HS1 := Lib.hid hS0
    clear hr hb hC2 hS0 S9 HF1 HD1 E9 hc8 hf8 m0 m1 m3 m4 m5 m6 m7 m8 hm
    go_wp2_with fail
    go_loopw [6] (fun i wr => DecR Cdr W2 w.heap.size g cb zs f (1 + (N : Int)) (N + 1) i wr) (fun i _ => N + 1 - (intOf i).toNat)
    case atStart => exact ⟨0, _, by omega, rfl, HS1.out⟩
    case round =>
      obtain ⟨k, pv, hk, rfl, hst⟩ := hrel
      have HS := Lib.hid hst
      have hlt2 := hst.lt
      have h13 := hst.o3
      clear hst HS1
      by_cases hlt : k < N + 1
      · obtain ⟨pos, hpos⟩ : ∃ pos, (rdPs f (1 + (N : Int)) (nLe f) k 10).2 = pos := ⟨_, rfl⟩
        obtain ⟨ps, hps⟩ : ∃ ps, (rdPs f (1 + (N : Int)) (nLe f) k 10).1 = ps := ⟨_, rfl⟩
        have hpb : pos ≤ 100 := by have := rdPs_pos f (1 + (N : Int)) (nLe f) k 10; omega
        have HS2 := Lib.hid (show DecSt Cdr W2 w.heap.size g cb zs f pos pv (.slice none 0 0) ps [] wr by rw [← hpos, ← hps]; exact HS.out)
        have HPL := Lib.hid (show ps.length = k by rw [← hps]; exact rdPs_length _ _ _ _ _)
        have HNX := Lib.hid (show rdPs f (1 + (N : Int)) (nLe f) (k + 1) 10 = (ps ++ [(rdP f (1 + (N : Int)) (nLe f) pos).1], (rdP f (1 + (N : Int)) (nLe f) pos).2) by rw [← hpos, ← hps]; rfl)
        obtain ⟨M, hM⟩ : ∃ M : Nat, f pos % 6 = (M : Int) := ⟨(f pos % 6).toNat, by have := modk (f pos) (k := 6) (by omega); omega⟩
        have hM6 : M < 6 := by have := modk (f pos) (k := 6) (by omega); omega
        have HRP := Lib.hid (show rdP f (1 + (N : Int)) (nLe f) pos = rdIs f (1 + (N : Int)) (nLe f) M (pos + 1) by unfold rdP; rw [hM, Int.toNat_natCast])
        have HM := Lib.hid hM
        clear hpos hps hM HS
        go_wp2_with fail
        (with_reducible refine (number_any HS2.out.rd _ (by omega) (by omega) (by omega)).mono ?_)
        rintro e w4 ⟨rfl, hr, hb⟩
        rw [HFF.out, HM.out]
        have HS3 := Lib.hid (HS2.out.read hr hb)
        have hg4 : g < w4.heap.size := hr.lt
        have hI0 : InSt Cdr w4 w.heap.size g zs (pos + 1) (.slice none 0 0) [] w4 := ⟨hr, Fr.refl _ _, OwnT.nil _ _ _⟩
        have HI0 := Lib.hid hI0
        have hlt4 := hb.size
        clear hr hb HS2 hI0
        go_wp2_with fail
        go_loopw [7, 8] (fun p i wr => InD Cdr w4 w.heap.size g zs f (1 + (N : Int)) (pos + 1) M p i wr) (fun _ i _ => (intOf i).toNat)
        case atStart => exact ⟨0, M, by omega, rfl, HI0.out⟩
        case round =>
          obtain ⟨j, m, hjm, rfl, hin⟩ := hrel
          have HI := Lib.hid hin
          have hfr := hin.fr
          have hcI := HS3.out.c.of_same (hfr.block _ HS3.out.c.lt (by simp; omega))
          have hlt5 := hfr.size
          clear hin HI0
          by_cases hlj : 0 < m
          · obtain ⟨m, rfl⟩ : ∃ m', m = m' + 1 := ⟨m - 1, by omega⟩
            obtain ⟨q, hq⟩ : ∃ q, (rdIs f (1 + (N : Int)) (nLe f) j (pos + 1)).2 = q := ⟨_, rfl⟩
            obtain ⟨l, hl⟩ : ∃ l, (rdIs f (1 + (N : Int)) (nLe f) j (pos + 1)).1 = l := ⟨_, rfl⟩
            have hqb : q ≤ 200 := by have := rdIs_pos f (1 + (N : Int)) (nLe f) j (pos + 1); omega
            have HL := Lib.hid (show l.length = j by rw [← hl]; exact rdIs_length _ _ _ _ _)
            have HNI := Lib.hid (show rdIs f (1 + (N : Int)) (nLe f) (j + 1) (pos + 1) = (l ++ [(rdI f (1 + (N : Int)) (nLe f) q).1], (rdI f (1 + (N : Int)) (nLe f) q).2) by rw [← hl, ← hq]; rfl)
            have HI2 := Lib.hid (show InSt Cdr w4 w.heap.size g zs q u7 l wr by rw [← hq, ← hl]; exact HI.out)
            have hcI1 := Lib.hid hcI
            have hgr : g < wr.heap.size := by omega
            have n3 := modk (f q) (k := 3) (by omega)
            have n4 := mod4 (f (q + 1))
            have nn := modk (f (q + 1)) (k := 1 + (N : Int)) (by omega)
            have nl := modk (f (q + 2)) hle
            have ht : f q % 3 = 0 ∨ f q % 3 = 1 ∨ f q % 3 = 2 := by omega
            have hM1 : j < M := by omega
            clear hq hl hcI HI hfr n3
            rcases ht with ht | ht | ht
            · have HX := Lib.hid (show rdI f (1 + (N : Int)) (nLe f) q = ((0, 1 + f (q + 1) % 4, 0), q + 2) by unfold rdI; rw [if_pos ht])
              have HT := Lib.hid ht
              clear ht
              go_wp2_with fail
              (with_reducible refine (number_any HI2.out.rd _ (by omega) (by omega) (by omega)).mono ?_)
              rintro e y1 ⟨rfl, hr, hb⟩
              rw [HFF.out, HT.out]
              have X1 := Lib.hid (BSt.first (Rd := Cdr) (w0 := wr) (t := 84) stable_cdr hr hb #[.int .i64 0, .int .i64 0, .int .i64 0])
              clear hr hb
              go_wp2_with fail
              (with_reducible refine (number_any X1.out.rd _ (by omega) (by omega) (by omega)).mono ?_)
              rintro e y2 ⟨rfl, hr, hb⟩
              rw [HFF.out]
              obtain ⟨b1, g1⟩ : y2.cell? ⟨y1.heap.size, 1, none⟩ = some (.int .i64 0) ∧ y2.frozen? ⟨y1.heap.size, 1, none⟩ = false := X1.out.at_ hgr hb 1
              have b0 : y2.cell? ⟨y1.heap.size, 0, none⟩ = some (.int .i64 0) := (X1.out.at_ hgr hb 0).1
              have b2 : y2.cell? ⟨y1.heap.size, 2, none⟩ = some (.int .i64 0) := (X1.out.at_ hgr hb 2).1
              have X2 := Lib.hid (show BSt Cdr 84 wr w.heap.size g zs (q + 2) y1.heap.size #[.int .i64 0, .int .i64 (1 + f (q + 1) % 4), .int .i64 0] (y2.setCell ⟨y1.heap.size, 1, none⟩ (.int .i64 (1 + f (q + 1) % 4))) from by
                have hst := X1.out.step stable_cdr hgr hB hr hb 1 (.int .i64 (1 + f (q + 1) % 4))
                simp only [List.setIfInBounds_toArray, List.set_cons_zero, List.set_cons_succ] at hst
                exact hst)
              clear hr hb X1
              have HI3 := Lib.hid ((HI2.out.read hg4 X2.out.rd X2.out.fr).alloc stable_cdr (.cells #[.int .i64 0, .int .i64 (1 + f (q + 1) % 4), .int .i64 (0)] 84))
              have HTH := Lib.hid (three_set y2 ⟨y1.heap.size, 1, none⟩ (.int .i64 (1 + f (q + 1) % 4)) 84 (0) (1 + f (q + 1) % 4) (0))
              go_wp2_with
                (at_builtin
                 refine wpList_appT Tryz.underlying81 info_instr rfl _ _ rfl rfl HI3.out.p rfl HTH.out (by rw [HL.out]; omega) HI3.out.fr.size ?_
                 intro v6 w6 hown hg6 _
                 have HI4 := Lib.hid (HI3.out.add stable_cdr hB hg4 hown hg6)
                 clear hown hg6 HI3)
              go_roundw
              case rel => exact ⟨j + 1, m, by omega, by go_num, by rw [HNI.out, HX.out]; exact HI4.out⟩
              case measure => simp [intOf]
            · have HX := Lib.hid (show rdI f (1 + (N : Int)) (nLe f) q = ((1, f (q + 1) % (1 + (N : Int)), f (q + 2) % nLe f), q + 3) by unfold rdI; rw [if_neg (by omega), if_pos ht])
              have HT := Lib.hid ht
              clear ht
              go_wp2_with fail
              (with_reducible refine (number_any HI2.out.rd _ (by omega) (by omega) (by omega)).mono ?_)
              rintro e y1 ⟨rfl, hr, hb⟩
              rw [HFF.out, HT.out]
              have X1 := Lib.hid (BSt.first (Rd := Cdr) (w0 := wr) (t := 84) stable_cdr hr hb #[.int .i64 1, .int .i64 0, .int .i64 0])
              have a1 : (y1.alloc (.cells #[.int .i64 1, .int .i64 0, .int .i64 0] 84)).cell? ⟨cb, 1, none⟩ = some (.int .i64 (nLe f)) := ((hcI1.out.of_same (hb.block _ hcI1.out.lt (by simp; omega))).alloc _).at_ 1
              clear hr hb
              go_wp2_with fail
              (with_reducible refine (number_any X1.out.rd _ (by omega) (by omega) (by omega)).mono ?_)
              rintro e y2 ⟨rfl, hr, hb⟩
              rw [HFF.out]
              obtain ⟨b1, g1⟩ : y2.cell? ⟨y1.heap.size, 1, none⟩ = some (.int .i64 0) ∧ y2.frozen? ⟨y1.heap.size, 1, none⟩ = false := X1.out.at_ hgr hb 1
              have b0 : y2.cell? ⟨y1.heap.size, 0, none⟩ = some (.int .i64 1) := (X1.out.at_ hgr hb 0).1
              have b2 : y2.cell? ⟨y1.heap.size, 2, none⟩ = some (.int .i64 0) := (X1.out.at_ hgr hb 2).1
              have X2 := Lib.hid (show BSt Cdr 84 wr w.heap.size g zs (q + 2) y1.heap.size #[.int .i64 1, .int .i64 (f (q + 1) % (1 + (N : Int))), .int .i64 0] (y2.setCell ⟨y1.heap.size, 1, none⟩ (.int .i64 (f (q + 1) % (1 + (N : Int))))) from by
                have hst := X1.out.step stable_cdr hgr hB hr hb 1 (.int .i64 (f (q + 1) % (1 + (N : Int))))
                simp only [List.setIfInBounds_toArray, List.set_cons_zero, List.set_cons_succ] at hst
                exact hst)
              have a2 : (y2.setCell ⟨y1.heap.size, 1, none⟩ (.int .i64 (f (q + 1) % (1 + (N : Int))))).cell? ⟨cb, 1, none⟩ = some (.int .i64 (nLe f)) := (hcI1.out.of_same (X2.out.fr.block _ hcI1.out.lt (by simp; omega))).at_ 1
              clear hr hb X1 a1
              go_wp2_with fail
              (with_reducible refine (number_any X2.out.rd _ (by omega) (by omega) (by omega)).mono ?_)
              rintro e y3 ⟨rfl, hr, hb⟩
              rw [HFF.out]
              obtain ⟨d2, g2⟩ : y3.cell? ⟨y1.heap.size, 2, none⟩ = some (.int .i64 0) ∧ y3.frozen? ⟨y1.heap.size, 2, none⟩ = false := X2.out.at_ hgr hb 2
              have d0 : y3.cell? ⟨y1.heap.size, 0, none⟩ = some (.int .i64 1) := (X2.out.at_ hgr hb 0).1
              have d1 : y3.cell? ⟨y1.heap.size, 1, none⟩ = some (.int .i64 (f (q + 1) % (1 + (N : Int)))) := (X2.out.at_ hgr hb 1).1
              have X3 := Lib.hid (show BSt Cdr 84 wr w.heap.size g zs (q + 3) y1.heap.size #[.int .i64 1, .int .i64 (f (q + 1) % (1 + (N : Int))), .int .i64 (f (q + 2) % nLe f)] (y3.setCell ⟨y1.heap.size, 2, none⟩ (.int .i64 (f (q + 2) % nLe f))) from by
                have hst := X2.out.step stable_cdr hgr hB hr hb 2 (.int .i64 (f (q + 2) % nLe f))
                simp only [List.setIfInBounds_toArray, List.set_cons_zero, List.set_cons_succ] at hst
                exact hst)
              clear hr hb X2 a2 b0 b1 b2 g1
              have HI3 := Lib.hid ((HI2.out.read hg4 X3.out.rd X3.out.fr).alloc stable_cdr (.cells #[.int .i64 1, .int .i64 (f (q + 1) % (1 + (N : Int))), .int .i64 (f (q + 2) % nLe f)] 84))
              have HTH := Lib.hid (three_set y3 ⟨y1.heap.size, 2, none⟩ (.int .i64 (f (q + 2) % nLe f)) 84 (1) (f (q + 1) % (1 + (N : Int))) (f (q + 2) % nLe f))
              go_wp2_with
                (at_builtin
                 refine wpList_appT Tryz.underlying81 info_instr rfl _ _ rfl rfl HI3.out.p rfl HTH.out (by rw [HL.out]; omega) HI3.out.fr.size ?_
                 intro v6 w6 hown hg6 _
                 have HI4 := Lib.hid (HI3.out.add stable_cdr hB hg4 hown hg6)
                 clear hown hg6 HI3)
              go_roundw
              case rel => exact ⟨j + 1, m, by omega, by go_num, by rw [HNI.out, HX.out]; exact HI4.out⟩
              case measure => simp [intOf]
            · have HX := Lib.hid (show rdI f (1 + (N : Int)) (nLe f) q = ((2, f (q + 1) % 4, 0), q + 2) by unfold rdI; rw [if_neg (by omega), if_neg (by omega)])
              have HT := Lib.hid ht
              clear ht
              go_wp2_with fail
              (with_reducible refine (number_any HI2.out.rd _ (by omega) (by omega) (by omega)).mono ?_)
              rintro e y1 ⟨rfl, hr, hb⟩
              rw [HFF.out, HT.out]
              have X1 := Lib.hid (BSt.first (Rd := Cdr) (w0 := wr) (t := 84) stable_cdr hr hb #[.int .i64 2, .int .i64 0, .int .i64 0])
              clear hr hb
              go_wp2_with fail
              (with_reducible refine (number_any X1.out.rd _ (by omega) (by omega) (by omega)).mono ?_)
              rintro e y2 ⟨rfl, hr, hb⟩
              rw [HFF.out]
              obtain ⟨b1, g1⟩ : y2.cell? ⟨y1.heap.size, 1, none⟩ = some (.int .i64 0) ∧ y2.frozen? ⟨y1.heap.size, 1, none⟩ = false := X1.out.at_ hgr hb 1
              have b0 : y2.cell? ⟨y1.heap.size, 0, none⟩ = some (.int .i64 2) := (X1.out.at_ hgr hb 0).1
              have b2 : y2.cell? ⟨y1.heap.size, 2, none⟩ = some (.int .i64 0) := (X1.out.at_ hgr hb 2).1
              have X2 := Lib.hid (show BSt Cdr 84 wr w.heap.size g zs (q + 2) y1.heap.size #[.int .i64 2, .int .i64 (f (q + 1) % 4), .int .i64 0] (y2.setCell ⟨y1.heap.size, 1, none⟩ (.int .i64 (f (q + 1) % 4))) from by
                have hst := X1.out.step stable_cdr hgr hB hr hb 1 (.int .i64 (f (q + 1) % 4))
                simp only [List.setIfInBounds_toArray, List.set_cons_zero, List.set_cons_succ] at hst
                exact hst)
              clear hr hb X1
              have HI3 := Lib.hid ((HI2.out.read hg4 X2.out.rd X2.out.fr).alloc stable_cdr (.cells #[.int .i64 2, .int .i64 (f (q + 1) % 4), .int .i64 (0)] 84))
              have HTH := Lib.hid (three_set y2 ⟨y1.heap.size, 1, none⟩ (.int .i64 (f (q + 1) % 4)) 84 (2) (f (q + 1) % 4) (0))
              go_wp2_with
                (at_builtin
                 refine wpList_appT Tryz.underlying81 info_instr rfl _ _ rfl rfl HI3.out.p rfl HTH.out (by rw [HL.out]; omega) HI3.out.fr.size ?_
                 intro v6 w6 hown hg6 _
                 have HI4 := Lib.hid (HI3.out.add stable_cdr hB hg4 hown hg6)
                 clear hown hg6 HI3)
              go_roundw
              case rel => exact ⟨j + 1, m, by omega, by go_num, by rw [HNI.out, HX.out]; exact HI4.out⟩
              case measure => simp [intOf]
          · obtain rfl : m = 0 := by omega
            obtain rfl : j = M := by omega
            have hS4 := HS3.out.read HI.out.rd hfr
            have hp0 : OwnT wr W2.heap.size 84 u7 (rdP f (1 + (N : Int)) (nLe f) pos).1 := by
              rw [HRP.out]
              exact HI.out.p.mono (by omega)
            obtain ⟨m, hm⟩ : ∃ m, (rdP f (1 + (N : Int)) (nLe f) pos).1.length = m := ⟨_, rfl⟩
            obtain ⟨ua, uc, rfl, _, _⟩ := hp0.formN hm
            clear hm
            have hc9 : wr.cell? ⟨cb, 9, none⟩ = some pv := hcI.at_ 9
            have HS5 := Lib.hid (hS4.alloc stable_cdr (.cells #[.slice ua m uc] 81))
            have HP := Lib.hid (hp0.alloc (.cells #[.slice ua m uc] 81))
            have HU := Lib.hid (show (wr.alloc (.cells #[.slice ua m uc] 81)).cell? ((⟨wr.heap.size, 0, none⟩ : Addr).add 0) = some (.slice ua m uc) from (Blk.made wr 81 #[.slice ua m uc]).at_ 0)
            clear hS4 hp0 HI hfr hcI HS3
            go_wp2_with
              (at_builtin
               refine wpList_appP rfl _ _ rfl rfl HS5.out.pr rfl HU.out HP.out (by rw [HPL.out]; omega) HS5.out.lt ?_
               intro v7 w7 hown hg7 _
               obtain ⟨va, vc, rfl, _, _⟩ := hown.formN (n := k + 1) (by simp [HPL.out])
               have hC7 := HS5.out.at_ (fun x hx => (HS5.out.pr.lt x hx).1) hg7
               have c97 : w7.cell? ⟨cb, 9, none⟩ = some pv := hC7.at_ 9
               have f97 := hC7.free 9
               have HS6 := Lib.hid (HS5.out.addP rfl stable_cdr hown hg7)
               clear hown hg7 hC7 HS5 HP HU hc9)
            go_roundw
            case rel => exact ⟨k + 1, _, by omega, by go_num, by rw [HNX.out]; rw [HRP.out] at HS6 ⊢; exact HS6.out⟩
            case measure => simp [intOf]; omega
      · obtain rfl : k = N + 1 := by omega
        have hq : rdPs f (1 + (N : Int)) (nLe f) (N + 1) 10 = qPr f := by
          unfold qPr
          rw [HNP.out, show (1 + (N : Int)).toNat = N + 1 by omega]
        have hS2 := HS.out
        have hqp := rdPs_pos f (1 + (N : Int)) (nLe f) (N + 1) 10
        rw [hq] at hS2 hqp
        obtain ⟨pos, hpos⟩ : ∃ pos, (qPr f).2 = pos := ⟨_, rfl⟩
        obtain ⟨M, hM⟩ : ∃ M : Nat, f pos % 6 = (M : Int) := ⟨(f pos % 6).toNat, by have := modk (f pos) (k := 6) (by omega); omega⟩
        have hM6 : M < 6 := by have := modk (f pos) (k := 6) (by omega); omega
        have HSU := Lib.hid (show (decC f).su = rdSs f (1 + (N : Int)) (nLe f) M (pos + 1) by
          show rdSs f (nPr f) (nLe f) (f (qPr f).2 % 6).toNat ((qPr f).2 + 1) = _
          rw [hpos, hM, Int.toNat_natCast, HNP.out])
        rw [hpos] at hS2 hqp
        have hpb : pos ≤ 100 := by omega
        have HS2 := Lib.hid hS2
        have HM := Lib.hid hM
        clear hS2 hM hpos hq HS hqp
        go_wp2_with fail
        (with_reducible refine (number_any HS2.out.rd _ (by omega) (by omega) (by omega)).mono ?_)
        rintro e w8 ⟨rfl, hr, hb⟩
        rw [HFF.out, HM.out]
        have HS3 := Lib.hid (HS2.out.read hr hb)
        clear hr hb HS2
        go_wp2_with fail
        go_loopw [10] (fun i wr => DecD Cdr W2 w.heap.size g cb zs f (1 + (N : Int)) (pos + 1) M pv (qPr f).1 i wr) (fun i _ => (intOf i).toNat)
        case atStart => exact ⟨0, M, _, by omega, rfl, HS3.out⟩
        case round =>
          obtain ⟨k, m, sv, hkm, rfl, hst⟩ := hrel
          have HS := Lib.hid hst
          clear hst HS3
          by_cases hlt : 0 < m
          · obtain ⟨m, rfl⟩ : ∃ m', m = m' + 1 := ⟨m - 1, by omega⟩
            obtain ⟨q, hq⟩ : ∃ q, pos + 1 + 3 * k = q := ⟨_, rfl⟩
            obtain ⟨ss, hss⟩ : ∃ ss, rdSs f (1 + (N : Int)) (nLe f) k (pos + 1) = ss := ⟨_, rfl⟩
            have hqb : q ≤ 200 := by omega
            have HL := Lib.hid (show ss.length = k by rw [← hss]; exact rdSs_length _ _ _ _ _)
            have HNI := Lib.hid (show rdSs f (1 + (N : Int)) (nLe f) (k + 1) (pos + 1) = ss ++ [(f q % (1 + (N : Int)), f (q + 1) % nLe f, f (q + 2) % 16)] by rw [← hq, ← hss]; rfl)
            have HQ := Lib.hid (show pos + 1 + 3 * (k + 1) = q + 3 by omega)
            have HS2 := Lib.hid (show DecSt Cdr W2 w.heap.size g cb zs f q pv sv (qPr f).1 ss wr by rw [← hq, ← hss]; exact HS.out)
            have hl2 := HS2.out.lt
            have h13' := HS2.out.o3
            have hgr : g < wr.heap.size := by omega
            have nn := modk (f q) (k := 1 + (N : Int)) (by omega)
            have nl := modk (f (q + 1)) hle
            have n16 := modk (f (q + 2)) (k := 16) (by omega)
            clear hq hss HS
            go_wp2_with fail
            (with_reducible refine (number_any HS2.out.rd _ (by omega) (by omega) (by omega)).mono ?_)
            rintro e y1 ⟨rfl, hr, hb⟩
            rw [HFF.out]
            have X1 := Lib.hid (BSt.first (Rd := Cdr) (w0 := wr) (t := 87) stable_cdr hr hb #[.int .i64 (f q % (1 + (N : Int))), .int .i64 0, .int .i64 0])
            have a1 : (y1.alloc (.cells #[.int .i64 (f q % (1 + (N : Int))), .int .i64 0, .int .i64 0] 87)).cell? ⟨cb, 1, none⟩ = some (.int .i64 (nLe f)) := ((HS2.out.read hr hb).alloc stable_cdr _).c.at_ 1
            clear hr hb
            go_wp2_with fail
            (with_reducible refine (number_any X1.out.rd _ (by omega) (by omega) (by omega)).mono ?_)
            rintro e y2 ⟨rfl, hr, hb⟩
            rw [HFF.out]
            obtain ⟨b1, g1⟩ : y2.cell? ⟨y1.heap.size, 1, none⟩ = some (.int .i64 0) ∧ y2.frozen? ⟨y1.heap.size, 1, none⟩ = false := X1.out.at_ hgr hb 1
            have X2 := Lib.hid (show BSt Cdr 87 wr w.heap.size g zs (q + 2) y1.heap.size #[.int .i64 (f q % (1 + (N : Int))), .int .i64 (f (q + 1) % nLe f), .int .i64 0] (y2.setCell ⟨y1.heap.size, 1, none⟩ (.int .i64 (f (q + 1) % nLe f))) from by
              have hst := X1.out.step stable_cdr hgr hB hr hb 1 (.int .i64 (f (q + 1) % nLe f))
              simp only [List.setIfInBounds_toArray, List.set_cons_zero, List.set_cons_succ] at hst
              exact hst)
            clear hr hb X1 a1
            go_wp2_with fail
            (with_reducible refine (number_any X2.out.rd _ (by omega) (by omega) (by omega)).mono ?_)
            rintro e y3 ⟨rfl, hr, hb⟩
            rw [HFF.out]
            obtain ⟨d2, g2⟩ : y3.cell? ⟨y1.heap.size, 2, none⟩ = some (.int .i64 0) ∧ y3.frozen? ⟨y1.heap.size, 2, none⟩ = false := X2.out.at_ hgr hb 2
            have d0 : y3.cell? ⟨y1.heap.size, 0, none⟩ = some (.int .i64 (f q % (1 + (N : Int)))) := (X2.out.at_ hgr hb 0).1
            have d1 : y3.cell? ⟨y1.heap.size, 1, none⟩ = some (.int .i64 (f (q + 1) % nLe f)) := (X2.out.at_ hgr hb 1).1
            have X3 := Lib.hid (show BSt Cdr 87 wr w.heap.size g zs (q + 3) y1.heap.size #[.int .i64 (f q % (1 + (N : Int))), .int .i64 (f (q + 1) % nLe f), .int .i64 (f (q + 2) % 16)] (y3.setCell ⟨y1.heap.size, 2, none⟩ (.int .i64 (f (q + 2) % 16))) from by
              have hst := X2.out.step stable_cdr hgr hB hr hb 2 (.int .i64 (f (q + 2) % 16))
              simp only [List.setIfInBounds_toArray, List.set_cons_zero, List.set_cons_succ] at hst
              exact hst)
            have HS4 := Lib.hid (HS2.out.read X3.out.rd X3.out.fr)
            have h10 : (y3.setCell ⟨y1.heap.size, 2, none⟩ (.int .i64 (f (q + 2) % 16))).cell? ⟨cb, 10, none⟩ = some sv := HS4.out.c.at_ 10
            have HS6 := Lib.hid (HS4.out.alloc stable_cdr (.cells #[.int .i64 (f q % (1 + (N : Int))), .int .i64 (f (q + 1) % nLe f), .int .i64 (f (q + 2) % 16)] 87))
            have HTH := Lib.hid (three_set y3 ⟨y1.heap.size, 2, none⟩ (.int .i64 (f (q + 2) % 16)) 87 (f q % (1 + (N : Int))) (f (q + 1) % nLe f) (f (q + 2) % 16))
            clear hr hb X2 X3 b1 g1 HS2 HS4
            go_wp2_with
              (at_builtin
               refine wpList_appT Tryz.underlying28 info_sub rfl _ _ rfl rfl HS6.out.su rfl HTH.out (by rw [HL.out]; omega) HS6.out.lt ?_
               intro v7 w7 hown hg7 _
               obtain ⟨va, vc, rfl, _, _⟩ := hown.formN (n := k + 1) (by simp [HL.out])
               have hC7 := HS6.out.at_ (fun x hx => (HS6.out.su.lt x hx).1) hg7
               have c7 : w7.cell? ⟨cb, 10, none⟩ = some sv := hC7.at_ 10
               have f7 := hC7.free 10
               have HS7 := Lib.hid (HS6.out.addS stable_cdr hown hg7)
               clear hown hg7 hC7)
            go_roundw
            case rel => exact ⟨k + 1, m, _, by omega, by go_num, by rw [HQ.out, HNI.out]; exact HS7.out⟩
            case measure => simp [intOf]
          · obtain rfl : m = 0 := by omega
            obtain rfl : k = M := by omega
            have hS4 := HS.out
            rw [← HSU.out, ← HFF.out] at hS4
            have HS4 := Lib.hid hS4
            have E := HS.out.c
            obtain ⟨e0, e1, e2, e3, e4, e5, e6, e7, e8, e9, e10⟩ := (⟨E.at_ 0, E.at_ 1, E.at_ 2, E.at_ 3, E.at_ 4, E.at_ 5, E.at_ 6, E.at_ 7, E.at_ 8, E.at_ 9, E.at_ 10⟩ : _ ∧ _ ∧ _ ∧ _ ∧ _ ∧ _ ∧ _ ∧ _ ∧ _ ∧ _ ∧ _)
            simp only [List.getElem?_toArray, List.getElem?_cons_zero, List.getElem?_cons_succ] at e0 e1 e2 e3 e4 e5 e6 e7 e8 e9 e10
            have D := hS4.res (w0 := w) hgw HD2.out
            have HDD := Lib.hid D
            have d0 := D.at_ 0
            have d1 := D.at_ 1
            have d2 := D.at_ 2
            have d3 := D.at_ 3
            have d4 := D.at_ 4
            have d5 := D.at_ 5
            have d6 := D.at_ 6
            have d7 := D.at_ 7
            have d8 := D.at_ 8
            have d9 := D.at_ 9
            have d10 := D.at_ 10
            have g0 := D.free 0
            have g1 := D.free 1
            have g2 := D.free 2
            have g3 := D.free 3
            have g4 := D.free 4
            have g5 := D.free 5
            have g6 := D.free 6
            have g7 := D.free 7
            have g8 := D.free 8
            have g9 := D.free 9
            have g10 := D.free 10
            obtain ⟨xa, xc, hpv, _, _⟩ := hS4.pr.form
            obtain ⟨ya, yc, hsv, _, _⟩ := hS4.su.form
            obtain ⟨pn, hpn⟩ : ∃ pn, (qPr (strm zs)).1.length = pn := ⟨_, rfl⟩
            obtain ⟨sn, hsn⟩ : ∃ sn, (decC (strm zs)).su.length = sn := ⟨_, rfl⟩
            rw [hpn] at hpv
            rw [hsn] at hsv
            subst hpv hsv
            clear hS4 E D hpn hsn HS
            go_wp2
            have hD := HDD.out.put11 (.int .i64 (1 + f 0 % 4)) (.int .i64 (nLe f)) (.int .i64 (1 + f 2 % min 3 (nLe f))) (.int .i64 (1 + f 3 % 12)) (.int .i64 (nDe f)) (.int .i64 (1 + f 5 % 4)) (.int .i64 (1 + f 6 % nDe f)) (.int .i64 (f 7 % 6)) (.int .i64 (1 + f 8 % 8)) (.slice xa pn xc) (.slice ya sn yc)
            have hF := fr11 wr w.heap.size (.int .i64 (1 + f 0 % 4)) (.int .i64 (nLe f)) (.int .i64 (1 + f 2 % min 3 (nLe f))) (.int .i64 (1 + f 3 % 12)) (.int .i64 (nDe f)) (.int .i64 (1 + f 5 % 4)) (.int .i64 (1 + f 6 % nDe f)) (.int .i64 (f 7 % 6)) (.int .i64 (1 + f 8 % 8)) (.slice xa pn xc) (.slice ya sn yc)
            refine bodyPost_ret (results_cell_row (P := Tryz.prog) Tryz.results16 _ _ w.heap.size 30 _ (0, 0) _ rfl hD Tryz.underlying30 rfl (by kernel_rfl)) rfl ?_
            obtain ⟨r1, r2⟩ := HS4.out.done HF2.out hgw hF
            rw [HFF.out] at r1
            exact ⟨_, rfl, by rw [HFF.out]; exact r1, r2⟩
end Go.Proofs.YtgipddeldddbnaaGreat
