/-
  The walk of the statement LayoutOutside. (Written by wip/gen_lye.py.)
-/
import Derived.Test.YtffcclgcgiilmaaLyE
namespace Go.Proofs.Ytffcclgcgiilmaa
open Go Go.RowKit
set_option linter.unusedSimpArgs false

theorem ixs_out {first i n size : Int} (h : i < 0 ∨ n ≤ i) : ixs first i n size = -1 := if_pos h
theorem rTask_out {c : Cfg} {t k : Int} (h : t < 0 ∨ c.ta ≤ t) : rTask c t k = -1 := by
  unfold rTask
  rw [ixs_out h]
  rfl
structure OutS (w : World) (g h t : Nat) (c : Cfg) (pa : Option Addr) (pn pc : Nat) (sa : Option Addr) (sn sc : Nat) (u : World) : Prop where
  s : LawS w g h c pa pn pc sa sn sc u
  t : Blk u t 44 (qcells (-1) (-1) (-1) 0)
theorem OutS.below {w : World} {g h t : Nat} {c : Cfg} {pa sa : Option Addr} {pn pc sn sc : Nat} {u u' : World} (s : OutS w g h t c pa pn pc sa sn sc u) (b : Below u.heap.size u u') : OutS w g h t c pa pn pc sa sn sc u' := ⟨s.s.below b, s.t.below b⟩
theorem rQueue_out {c : Cfg} {q l : Int} (h : ¬ qIn c q l) : rQueue c q l = (-1, -1, -1, 0) := if_neg h

set_option maxRecDepth 20000 in
set_option maxHeartbeats 16000000 in
theorem outside_law (a : Option Addr) (L c' : Nat) (zs : List Int) (i : Int) (w : World) (h : InB w w.heap.size a L zs) :
    Calls Try.prog 5 #[.slice a L c', .int .i64 i] w fun e w' => e = .returned (.bool true) ∧ Below w.heap.size w w' := by
  have H := Lib.hid h
  clear h
  by_cases hL : (L : Int) ≤ 400
  case neg =>
    have HD := Lib.hid (show decide ((L : Int) ≤ 400) = false from decide_eq_false hL)
    go_enter Try.func5, Try.ntmps5
    go_wp2_with fail
    (with_reducible refine (short_nil _ _ _).mono ?_)
    rintro e w0 ⟨rfl, rfl⟩
    rw [HD.out]
    go_wp2
    go_ret
    exact ⟨rfl, Below.refl _ _⟩
  have HD := Lib.hid (show decide ((L : Int) ≤ 400) = true from decide_eq_true hL)
  have hcase : (¬ 0 ≤ i) ∨ (0 ≤ i ∧ i < 1000) ∨ (0 ≤ i ∧ ¬ i < 1000) := by omega
  rcases hcase with i0 | ⟨i0, i1⟩ | ⟨i0, i1⟩
  · have hJ : i < 0 ∨ 1000 ≤ i := by omega
    have HJ := Lib.hid hJ
    clear hJ
    go_enter Try.func5, Try.ntmps5
    go_wp2_with fail
    (with_reducible refine (short_nil _ _ _).mono ?_)
    rintro e w0 ⟨rfl, rfl⟩
    rw [HD.out]
    go_wp2_with fail
    (with_reducible refine (config_any H.out c').mono ?_)
    rintro e w1 ⟨v, rfl, hcfg, hb⟩
    obtain ⟨c, hcd⟩ : ∃ c, decC (strm zs) = c := ⟨_, rfl⟩
    rw [hcd] at hcfg
    have hck := chk_dec (strm zs)
    rw [hcd] at hck
    have HCK := Lib.hid hck
    have HIN := Lib.hid (cfgIn_chk hck)
    obtain ⟨pa, pn, pc, sa, sn, sc, rfl, hl⟩ := hcfg.isCfg
    have H1 := Lib.hid (hl.alloc (.cells (cc c pa pn pc sa sn sc) 26))
    have X1 := Lib.hid (Blk.made w1 26 (cc c pa pn pc sa sn sc))
    have B1 := Lib.hid (hb.alloc hb.size (.cells (cc c pa pn pc sa sn sc) 26))
    clear hl hb hcd hck hcfg HD
    go_wp2_with fail
    generalize w1.alloc (.cells (cc c pa pn pc sa sn sc) 26) = W at *
    generalize w1.heap.size = g at *
    (with_reducible refine (new_any H1.out _ _).mono ?_)
    rintro e w2 ⟨rfl, hb⟩
    rw [if_pos HCK.out, HCK.out]
    have X2 := Lib.hid (X1.out.below hb)
    have B2 := Lib.hid (B1.out.trans (hb.mono B1.out.size))
    clear hb H1 X1 B1
    go_upto_region 5 with fail
    have S0 := Lib.hid (show LawS w g w2.heap.size c pa pn pc sa sn sc (w2.alloc (.cells (lcells c) 30)) from ⟨X2.out.alloc _, Blk.made w2 30 (lcells c), B2.out.alloc B2.out.size _⟩)
    generalize w2.alloc (.cells (lcells c) 30) = W2 at *
    generalize w2.heap.size = h at *
    clear X2 B2
    go_wp2_with fail
    (with_reducible refine (awake_any _).mono ?_)
    rintro e w3 ⟨rfl, hb⟩
    have S1 := Lib.hid (S0.out.below hb)
    clear hb S0
    go_upto_region 9 with fail
    have hin := HIN.out
    have i_wo := hin.wo
    have i_le := hin.le
    have i_cl := hin.cl
    have i_ta := hin.ta
    have i_he := hin.he
    have hj := HJ.out
    have V0 := Lib.hid (show rSlot c (i) = -1 from ixs_out (by omega))
    have V1 := Lib.hid (show rSlot c c.he = -1 from ixs_out (by omega))
    have V2 := Lib.hid (show rSleepers c c.cl = -1 from ixs_out (by omega))
    have V3 := Lib.hid (show rEpoch c c.wo = -1 from ixs_out (by omega))
    have V4 := Lib.hid (show rBitmap c (i) = -1 from ixs_out (by omega))
    have V5 := Lib.hid (show rQueue c c.wo 0 = (-1, -1, -1, 0) from rQueue_out (fun h => by have := h.2.1; omega))
    have V6 := Lib.hid (show rQueue c 0 c.le = (-1, -1, -1, 0) from rQueue_out (fun h => by have := h.2.2.2; omega))
    have V7 := Lib.hid (show rQueue c (i) 0 = (-1, -1, -1, 0) from rQueue_out (fun h => by have h1 := h.1; have h2 := h.2.1; omega))
    have V8 := Lib.hid (show rTask c c.ta 0 = -1 from rTask_out (by omega))
    have V9 := Lib.hid (show rTask c (i) 4 = -1 from rTask_out (by omega))
    have hq : ∀ u, (Op.equalIn 10000 44 (.agg (qcells (-1) (-1) (-1) 0)) (.agg (qcells (-1) (-1) (-1) 0))).run Try.prog u = .ok true u := fun u => que_eq (-1, -1, -1, 0) (-1, -1, -1, 0) u
    clear hin i_wo i_le i_cl i_ta i_he hj HJ
    obtain ⟨x0, x1, x2, x3, x4, x5, x6, x7, x8, x9, x10⟩ := eleven S1.out.x
    go_upto_region 10 with fail
    have O1 := Lib.hid (show OutS w g h w3.heap.size c pa pn pc sa sn sc (w3.alloc (.cells (qcells (-1) (-1) (-1) 0) 44)) from ⟨S1.out.alloc _, Blk.made w3 44 (qcells (-1) (-1) (-1) 0)⟩)
    generalize w3.alloc (.cells (qcells (-1) (-1) (-1) 0) 44) = W3 at *
    generalize w3.heap.size = t at *
    clear S1 HCK x0 x1 x2 x3 x4 x5 x6 x7 x8 x9 x10
    refine wp_region_seq (S := OutS w g h t c pa pn pc sa sn sc) [0, 1, 2, 3, 4, 5, 6, 7, 8, 9, 10, 11, 12, 13, 14, 15, 16, 17, 18, 19, 20, 21, 22, 23, 24, 25, 26, 27, 28, 29, 30, 31, 32, 33, 34, 35, 36, 37, 38, 39, 40, 41, 42, 43, 44, 45, 46, 47, 48, 49, 50, 51, 52, 53, 54, 55, 56, 57, 58, 59, 60, 61, 62, 63, 64, 65, 66, 67] (by kernel_rfl) (by kernel_rfl) (by kernel_rfl) (by kernel_rfl) (by kernel_rfl) (show OutS w g h t c pa pn pc sa sn sc W3.drew from O1.out.below (below_drew (Below.refl _ _))) ?_
    refine SeqS.valD (v := .agg (lcells c)) 34 rfl (by kernel_rfl) (yields_row (by kernel_rfl) _ _ rfl h (by kernel_rfl) 30 _ (fun u hu => hu.s.l) _ Try.underlying30 rfl (by kernel_rfl)) ?_
    simp only [List.setIfInBounds_toArray, List.set_cons_zero, List.set_cons_succ]
    refine SeqS.valD (v := .int .i64 (i)) 35 rfl (by kernel_rfl) (Or.inl ⟨by kernel_rfl, fun u hu => by (go_simp)⟩) ?_
    simp only [List.setIfInBounds_toArray, List.set_cons_zero, List.set_cons_succ]
    refine SeqS.callD 36 (.int .i64 (-1)) rfl (by kernel_rfl) (by kernel_rfl) (fun u hu K hK => ?_) ?_
    · go_simp
      go_at_call 19
      (with_reducible refine (lslot_any HIN.out _).mono ?_)
      rintro e u1 ⟨rfl, b⟩
      rw [V0.out]
      exact hK.out _ _ (by kernel_rfl) (hu.below b)
    simp only [List.setIfInBounds_toArray, List.set_cons_zero, List.set_cons_succ]
    refine SeqS.valD (v := .bool true) 37 rfl (by kernel_rfl) (Or.inl ⟨by kernel_rfl, fun u hu => by (go_simp)⟩) ?_
    simp only [List.setIfInBounds_toArray, List.set_cons_zero, List.set_cons_succ]
    refine SeqS.valD (v := .bool true) 38 rfl (by kernel_rfl) (Or.inl ⟨by kernel_rfl, fun u hu => by (go_simp)⟩) ?_
    simp only [List.setIfInBounds_toArray, List.set_cons_zero, List.set_cons_succ]
    refine SeqS.valD (v := .agg (lcells c)) 39 rfl (by kernel_rfl) (yields_row (by kernel_rfl) _ _ rfl h (by kernel_rfl) 30 _ (fun u hu => hu.s.l) _ Try.underlying30 rfl (by kernel_rfl)) ?_
    simp only [List.setIfInBounds_toArray, List.set_cons_zero, List.set_cons_succ]
    refine SeqS.valD (v := .pointer (some ⟨g, 5, none⟩)) 40 rfl (by kernel_rfl) (Or.inl ⟨by kernel_rfl, fun u hu => by (go_simp)⟩) ?_
    simp only [List.setIfInBounds_toArray, List.set_cons_zero, List.set_cons_succ]
    refine SeqS.valD (v := .int .i64 c.he) 41 rfl (by kernel_rfl) (Or.inl ⟨by kernel_rfl, fun u hu => by (have k := hu.s.x.at_ 5; go_simp)⟩) ?_
    simp only [List.setIfInBounds_toArray, List.set_cons_zero, List.set_cons_succ]
    refine SeqS.callD 42 (.int .i64 (-1)) rfl (by kernel_rfl) (by kernel_rfl) (fun u hu K hK => ?_) ?_
    · go_simp
      go_at_call 19
      (with_reducible refine (lslot_any HIN.out _).mono ?_)
      rintro e u1 ⟨rfl, b⟩
      rw [V1.out]
      exact hK.out _ _ (by kernel_rfl) (hu.below b)
    simp only [List.setIfInBounds_toArray, List.set_cons_zero, List.set_cons_succ]
    refine SeqS.valD (v := .bool true) 43 rfl (by kernel_rfl) (Or.inl ⟨by kernel_rfl, fun u hu => by (go_simp)⟩) ?_
    simp only [List.setIfInBounds_toArray, List.set_cons_zero, List.set_cons_succ]
    refine SeqS.valD (v := .bool true) 44 rfl (by kernel_rfl) (Or.inl ⟨by kernel_rfl, fun u hu => by (go_simp)⟩) ?_
    simp only [List.setIfInBounds_toArray, List.set_cons_zero, List.set_cons_succ]
    refine SeqS.valD (v := .bool true) 45 rfl (by kernel_rfl) (Or.inl ⟨by kernel_rfl, fun u hu => by (go_simp)⟩) ?_
    simp only [List.setIfInBounds_toArray, List.set_cons_zero, List.set_cons_succ]
    refine SeqS.valD (v := .agg (lcells c)) 46 rfl (by kernel_rfl) (yields_row (by kernel_rfl) _ _ rfl h (by kernel_rfl) 30 _ (fun u hu => hu.s.l) _ Try.underlying30 rfl (by kernel_rfl)) ?_
    simp only [List.setIfInBounds_toArray, List.set_cons_zero, List.set_cons_succ]
    refine SeqS.valD (v := .pointer (some ⟨g, 2, none⟩)) 47 rfl (by kernel_rfl) (Or.inl ⟨by kernel_rfl, fun u hu => by (go_simp)⟩) ?_
    simp only [List.setIfInBounds_toArray, List.set_cons_zero, List.set_cons_succ]
    refine SeqS.valD (v := .int .i64 c.cl) 48 rfl (by kernel_rfl) (Or.inl ⟨by kernel_rfl, fun u hu => by (have k := hu.s.x.at_ 2; go_simp)⟩) ?_
    simp only [List.setIfInBounds_toArray, List.set_cons_zero, List.set_cons_succ]
    refine SeqS.callD 49 (.int .i64 (-1)) rfl (by kernel_rfl) (by kernel_rfl) (fun u hu K hK => ?_) ?_
    · go_simp
      go_at_call 20
      (with_reducible refine (lsleepers_any HIN.out _).mono ?_)
      rintro e u1 ⟨rfl, b⟩
      rw [V2.out]
      exact hK.out _ _ (by kernel_rfl) (hu.below b)
    simp only [List.setIfInBounds_toArray, List.set_cons_zero, List.set_cons_succ]
    refine SeqS.valD (v := .bool true) 50 rfl (by kernel_rfl) (Or.inl ⟨by kernel_rfl, fun u hu => by (go_simp)⟩) ?_
    simp only [List.setIfInBounds_toArray, List.set_cons_zero, List.set_cons_succ]
    refine SeqS.valD (v := .bool true) 51 rfl (by kernel_rfl) (Or.inl ⟨by kernel_rfl, fun u hu => by (go_simp)⟩) ?_
    simp only [List.setIfInBounds_toArray, List.set_cons_zero, List.set_cons_succ]
    refine SeqS.valD (v := .bool true) 52 rfl (by kernel_rfl) (Or.inl ⟨by kernel_rfl, fun u hu => by (go_simp)⟩) ?_
    simp only [List.setIfInBounds_toArray, List.set_cons_zero, List.set_cons_succ]
    refine SeqS.valD (v := .agg (lcells c)) 53 rfl (by kernel_rfl) (yields_row (by kernel_rfl) _ _ rfl h (by kernel_rfl) 30 _ (fun u hu => hu.s.l) _ Try.underlying30 rfl (by kernel_rfl)) ?_
    simp only [List.setIfInBounds_toArray, List.set_cons_zero, List.set_cons_succ]
    refine SeqS.valD (v := .pointer (some ⟨g, 0, none⟩)) 54 rfl (by kernel_rfl) (Or.inl ⟨by kernel_rfl, fun u hu => by (go_simp)⟩) ?_
    simp only [List.setIfInBounds_toArray, List.set_cons_zero, List.set_cons_succ]
    refine SeqS.valD (v := .int .i64 c.wo) 55 rfl (by kernel_rfl) (Or.inl ⟨by kernel_rfl, fun u hu => by (have k := hu.s.x.at_ 0; go_simp)⟩) ?_
    simp only [List.setIfInBounds_toArray, List.set_cons_zero, List.set_cons_succ]
    refine SeqS.callD 56 (.int .i64 (-1)) rfl (by kernel_rfl) (by kernel_rfl) (fun u hu K hK => ?_) ?_
    · go_simp
      go_at_call 21
      (with_reducible refine (lepoch_any HIN.out _).mono ?_)
      rintro e u1 ⟨rfl, b⟩
      rw [V3.out]
      exact hK.out _ _ (by kernel_rfl) (hu.below b)
    simp only [List.setIfInBounds_toArray, List.set_cons_zero, List.set_cons_succ]
    refine SeqS.valD (v := .bool true) 57 rfl (by kernel_rfl) (Or.inl ⟨by kernel_rfl, fun u hu => by (go_simp)⟩) ?_
    simp only [List.setIfInBounds_toArray, List.set_cons_zero, List.set_cons_succ]
    refine SeqS.valD (v := .bool true) 58 rfl (by kernel_rfl) (Or.inl ⟨by kernel_rfl, fun u hu => by (go_simp)⟩) ?_
    simp only [List.setIfInBounds_toArray, List.set_cons_zero, List.set_cons_succ]
    refine SeqS.valD (v := .bool true) 59 rfl (by kernel_rfl) (Or.inl ⟨by kernel_rfl, fun u hu => by (go_simp)⟩) ?_
    simp only [List.setIfInBounds_toArray, List.set_cons_zero, List.set_cons_succ]
    refine SeqS.valD (v := .agg (lcells c)) 60 rfl (by kernel_rfl) (yields_row (by kernel_rfl) _ _ rfl h (by kernel_rfl) 30 _ (fun u hu => hu.s.l) _ Try.underlying30 rfl (by kernel_rfl)) ?_
    simp only [List.setIfInBounds_toArray, List.set_cons_zero, List.set_cons_succ]
    refine SeqS.valD (v := .int .i64 (i)) 61 rfl (by kernel_rfl) (Or.inl ⟨by kernel_rfl, fun u hu => by (go_simp)⟩) ?_
    simp only [List.setIfInBounds_toArray, List.set_cons_zero, List.set_cons_succ]
    refine SeqS.callD 62 (.int .i64 (-1)) rfl (by kernel_rfl) (by kernel_rfl) (fun u hu K hK => ?_) ?_
    · go_simp
      go_at_call 22
      (with_reducible refine (lbitmap_any HIN.out _).mono ?_)
      rintro e u1 ⟨rfl, b⟩
      rw [V4.out]
      exact hK.out _ _ (by kernel_rfl) (hu.below b)
    simp only [List.setIfInBounds_toArray, List.set_cons_zero, List.set_cons_succ]
    refine SeqS.valD (v := .bool true) 63 rfl (by kernel_rfl) (Or.inl ⟨by kernel_rfl, fun u hu => by (go_simp)⟩) ?_
    simp only [List.setIfInBounds_toArray, List.set_cons_zero, List.set_cons_succ]
    refine SeqS.valD (v := .bool true) 64 rfl (by kernel_rfl) (Or.inl ⟨by kernel_rfl, fun u hu => by (go_simp)⟩) ?_
    simp only [List.setIfInBounds_toArray, List.set_cons_zero, List.set_cons_succ]
    refine SeqS.valD (v := .bool true) 65 rfl (by kernel_rfl) (Or.inl ⟨by kernel_rfl, fun u hu => by (go_simp)⟩) ?_
    simp only [List.setIfInBounds_toArray, List.set_cons_zero, List.set_cons_succ]
    refine SeqS.valD (v := .agg (lcells c)) 66 rfl (by kernel_rfl) (yields_row (by kernel_rfl) _ _ rfl h (by kernel_rfl) 30 _ (fun u hu => hu.s.l) _ Try.underlying30 rfl (by kernel_rfl)) ?_
    simp only [List.setIfInBounds_toArray, List.set_cons_zero, List.set_cons_succ]
    refine SeqS.valD (v := .pointer (some ⟨g, 0, none⟩)) 67 rfl (by kernel_rfl) (Or.inl ⟨by kernel_rfl, fun u hu => by (go_simp)⟩) ?_
    simp only [List.setIfInBounds_toArray, List.set_cons_zero, List.set_cons_succ]
    refine SeqS.valD (v := .int .i64 c.wo) 68 rfl (by kernel_rfl) (Or.inl ⟨by kernel_rfl, fun u hu => by (have k := hu.s.x.at_ 0; go_simp)⟩) ?_
    simp only [List.setIfInBounds_toArray, List.set_cons_zero, List.set_cons_succ]
    refine SeqS.callD 69 (.agg (qcells (-1) (-1) (-1) 0)) rfl (by kernel_rfl) (by kernel_rfl) (fun u hu K hK => ?_) ?_
    · go_simp
      go_at_call 23
      (with_reducible refine (lqueue_any HIN.out _ _).mono ?_)
      rintro e u1 ⟨rfl, b⟩
      rw [V5.out]
      exact hK.out _ _ (by kernel_rfl) (hu.below b)
    simp only [List.setIfInBounds_toArray, List.set_cons_zero, List.set_cons_succ]
    refine SeqS.valD (v := .agg (qcells (-1) (-1) (-1) 0)) 70 rfl (by kernel_rfl) (yields_row (by kernel_rfl) _ _ rfl t (by kernel_rfl) 44 _ (fun u hu => hu.t) _ Try.underlying44 rfl (by kernel_rfl)) ?_
    simp only [List.setIfInBounds_toArray, List.set_cons_zero, List.set_cons_succ]
    refine SeqS.valD (v := .bool true) 71 rfl (by kernel_rfl) (Or.inl ⟨by kernel_rfl, fun u hu => by (have k := hq u; go_simp)⟩) ?_
    simp only [List.setIfInBounds_toArray, List.set_cons_zero, List.set_cons_succ]
    refine SeqS.valD (v := .bool true) 72 rfl (by kernel_rfl) (Or.inl ⟨by kernel_rfl, fun u hu => by (go_simp)⟩) ?_
    simp only [List.setIfInBounds_toArray, List.set_cons_zero, List.set_cons_succ]
    refine SeqS.valD (v := .bool true) 73 rfl (by kernel_rfl) (Or.inl ⟨by kernel_rfl, fun u hu => by (go_simp)⟩) ?_
    simp only [List.setIfInBounds_toArray, List.set_cons_zero, List.set_cons_succ]
    refine SeqS.valD (v := .agg (lcells c)) 74 rfl (by kernel_rfl) (yields_row (by kernel_rfl) _ _ rfl h (by kernel_rfl) 30 _ (fun u hu => hu.s.l) _ Try.underlying30 rfl (by kernel_rfl)) ?_
    simp only [List.setIfInBounds_toArray, List.set_cons_zero, List.set_cons_succ]
    refine SeqS.valD (v := .pointer (some ⟨g, 1, none⟩)) 75 rfl (by kernel_rfl) (Or.inl ⟨by kernel_rfl, fun u hu => by (go_simp)⟩) ?_
    simp only [List.setIfInBounds_toArray, List.set_cons_zero, List.set_cons_succ]
    refine SeqS.valD (v := .int .i64 c.le) 76 rfl (by kernel_rfl) (Or.inl ⟨by kernel_rfl, fun u hu => by (have k := hu.s.x.at_ 1; go_simp)⟩) ?_
    simp only [List.setIfInBounds_toArray, List.set_cons_zero, List.set_cons_succ]
    refine SeqS.callD 77 (.agg (qcells (-1) (-1) (-1) 0)) rfl (by kernel_rfl) (by kernel_rfl) (fun u hu K hK => ?_) ?_
    · go_simp
      go_at_call 23
      (with_reducible refine (lqueue_any HIN.out _ _).mono ?_)
      rintro e u1 ⟨rfl, b⟩
      rw [V6.out]
      exact hK.out _ _ (by kernel_rfl) (hu.below b)
    simp only [List.setIfInBounds_toArray, List.set_cons_zero, List.set_cons_succ]
    refine SeqS.valD (v := .agg (qcells (-1) (-1) (-1) 0)) 78 rfl (by kernel_rfl) (yields_row (by kernel_rfl) _ _ rfl t (by kernel_rfl) 44 _ (fun u hu => hu.t) _ Try.underlying44 rfl (by kernel_rfl)) ?_
    simp only [List.setIfInBounds_toArray, List.set_cons_zero, List.set_cons_succ]
    refine SeqS.valD (v := .bool true) 79 rfl (by kernel_rfl) (Or.inl ⟨by kernel_rfl, fun u hu => by (have k := hq u; go_simp)⟩) ?_
    simp only [List.setIfInBounds_toArray, List.set_cons_zero, List.set_cons_succ]
    refine SeqS.valD (v := .bool true) 80 rfl (by kernel_rfl) (Or.inl ⟨by kernel_rfl, fun u hu => by (go_simp)⟩) ?_
    simp only [List.setIfInBounds_toArray, List.set_cons_zero, List.set_cons_succ]
    refine SeqS.valD (v := .bool true) 81 rfl (by kernel_rfl) (Or.inl ⟨by kernel_rfl, fun u hu => by (go_simp)⟩) ?_
    simp only [List.setIfInBounds_toArray, List.set_cons_zero, List.set_cons_succ]
    refine SeqS.valD (v := .agg (lcells c)) 82 rfl (by kernel_rfl) (yields_row (by kernel_rfl) _ _ rfl h (by kernel_rfl) 30 _ (fun u hu => hu.s.l) _ Try.underlying30 rfl (by kernel_rfl)) ?_
    simp only [List.setIfInBounds_toArray, List.set_cons_zero, List.set_cons_succ]
    refine SeqS.valD (v := .int .i64 (i)) 83 rfl (by kernel_rfl) (Or.inl ⟨by kernel_rfl, fun u hu => by (go_simp)⟩) ?_
    simp only [List.setIfInBounds_toArray, List.set_cons_zero, List.set_cons_succ]
    refine SeqS.callD 84 (.agg (qcells (-1) (-1) (-1) 0)) rfl (by kernel_rfl) (by kernel_rfl) (fun u hu K hK => ?_) ?_
    · go_simp
      go_at_call 23
      (with_reducible refine (lqueue_any HIN.out _ _).mono ?_)
      rintro e u1 ⟨rfl, b⟩
      rw [V7.out]
      exact hK.out _ _ (by kernel_rfl) (hu.below b)
    simp only [List.setIfInBounds_toArray, List.set_cons_zero, List.set_cons_succ]
    refine SeqS.valD (v := .agg (qcells (-1) (-1) (-1) 0)) 85 rfl (by kernel_rfl) (yields_row (by kernel_rfl) _ _ rfl t (by kernel_rfl) 44 _ (fun u hu => hu.t) _ Try.underlying44 rfl (by kernel_rfl)) ?_
    simp only [List.setIfInBounds_toArray, List.set_cons_zero, List.set_cons_succ]
    refine SeqS.valD (v := .bool true) 86 rfl (by kernel_rfl) (Or.inl ⟨by kernel_rfl, fun u hu => by (have k := hq u; go_simp)⟩) ?_
    simp only [List.setIfInBounds_toArray, List.set_cons_zero, List.set_cons_succ]
    refine SeqS.valD (v := .bool true) 87 rfl (by kernel_rfl) (Or.inl ⟨by kernel_rfl, fun u hu => by (go_simp)⟩) ?_
    simp only [List.setIfInBounds_toArray, List.set_cons_zero, List.set_cons_succ]
    refine SeqS.valD (v := .bool true) 88 rfl (by kernel_rfl) (Or.inl ⟨by kernel_rfl, fun u hu => by (go_simp)⟩) ?_
    simp only [List.setIfInBounds_toArray, List.set_cons_zero, List.set_cons_succ]
    refine SeqS.valD (v := .agg (lcells c)) 89 rfl (by kernel_rfl) (yields_row (by kernel_rfl) _ _ rfl h (by kernel_rfl) 30 _ (fun u hu => hu.s.l) _ Try.underlying30 rfl (by kernel_rfl)) ?_
    simp only [List.setIfInBounds_toArray, List.set_cons_zero, List.set_cons_succ]
    refine SeqS.valD (v := .pointer (some ⟨g, 3, none⟩)) 90 rfl (by kernel_rfl) (Or.inl ⟨by kernel_rfl, fun u hu => by (go_simp)⟩) ?_
    simp only [List.setIfInBounds_toArray, List.set_cons_zero, List.set_cons_succ]
    refine SeqS.valD (v := .int .i64 c.ta) 91 rfl (by kernel_rfl) (Or.inl ⟨by kernel_rfl, fun u hu => by (have k := hu.s.x.at_ 3; go_simp)⟩) ?_
    simp only [List.setIfInBounds_toArray, List.set_cons_zero, List.set_cons_succ]
    refine SeqS.callD 92 (.int .i64 (-1)) rfl (by kernel_rfl) (by kernel_rfl) (fun u hu K hK => ?_) ?_
    · go_simp
      go_at_call 24
      (with_reducible refine (lstate_any HIN.out _).mono ?_)
      rintro e u1 ⟨rfl, b⟩
      rw [V8.out]
      exact hK.out _ _ (by kernel_rfl) (hu.below b)
    simp only [List.setIfInBounds_toArray, List.set_cons_zero, List.set_cons_succ]
    refine SeqS.valD (v := .bool true) 93 rfl (by kernel_rfl) (Or.inl ⟨by kernel_rfl, fun u hu => by (go_simp)⟩) ?_
    simp only [List.setIfInBounds_toArray, List.set_cons_zero, List.set_cons_succ]
    refine SeqS.valD (v := .bool true) 94 rfl (by kernel_rfl) (Or.inl ⟨by kernel_rfl, fun u hu => by (go_simp)⟩) ?_
    simp only [List.setIfInBounds_toArray, List.set_cons_zero, List.set_cons_succ]
    refine SeqS.valD (v := .bool true) 95 rfl (by kernel_rfl) (Or.inl ⟨by kernel_rfl, fun u hu => by (go_simp)⟩) ?_
    simp only [List.setIfInBounds_toArray, List.set_cons_zero, List.set_cons_succ]
    refine SeqS.valD (v := .agg (lcells c)) 96 rfl (by kernel_rfl) (yields_row (by kernel_rfl) _ _ rfl h (by kernel_rfl) 30 _ (fun u hu => hu.s.l) _ Try.underlying30 rfl (by kernel_rfl)) ?_
    simp only [List.setIfInBounds_toArray, List.set_cons_zero, List.set_cons_succ]
    refine SeqS.valD (v := .int .i64 (i)) 97 rfl (by kernel_rfl) (Or.inl ⟨by kernel_rfl, fun u hu => by (go_simp)⟩) ?_
    simp only [List.setIfInBounds_toArray, List.set_cons_zero, List.set_cons_succ]
    refine SeqS.callD 98 (.int .i64 (-1)) rfl (by kernel_rfl) (by kernel_rfl) (fun u hu K hK => ?_) ?_
    · go_simp
      go_at_call 28
      (with_reducible refine (lsince_any HIN.out _).mono ?_)
      rintro e u1 ⟨rfl, b⟩
      rw [V9.out]
      exact hK.out _ _ (by kernel_rfl) (hu.below b)
    simp only [List.setIfInBounds_toArray, List.set_cons_zero, List.set_cons_succ]
    refine SeqS.valD (v := .bool true) 99 rfl (by kernel_rfl) (Or.inl ⟨by kernel_rfl, fun u hu => by (go_simp)⟩) ?_
    simp only [List.setIfInBounds_toArray, List.set_cons_zero, List.set_cons_succ]
    refine SeqS.valD (v := .bool true) 100 rfl (by kernel_rfl) (Or.inl ⟨by kernel_rfl, fun u hu => by (go_simp)⟩) ?_
    simp only [List.setIfInBounds_toArray, List.set_cons_zero, List.set_cons_succ]
    refine SeqS.valD (v := .bool true) 4 rfl (by kernel_rfl) (Or.inl ⟨by kernel_rfl, fun u hu => by (go_simp)⟩) ?_
    simp only [List.setIfInBounds_toArray, List.set_cons_zero, List.set_cons_succ]
    refine SeqS.done ?_
    intro W4 hW
    go_wp2
    go_ret
    exact ⟨rfl, hW.s.b⟩
  · have hJ : -1 - i < 0 ∨ 1000 ≤ -1 - i := by omega
    have HJ := Lib.hid hJ
    clear hJ
    go_enter Try.func5, Try.ntmps5
    go_wp2_with fail
    (with_reducible refine (short_nil _ _ _).mono ?_)
    rintro e w0 ⟨rfl, rfl⟩
    rw [HD.out]
    go_wp2_with fail
    (with_reducible refine (config_any H.out c').mono ?_)
    rintro e w1 ⟨v, rfl, hcfg, hb⟩
    obtain ⟨c, hcd⟩ : ∃ c, decC (strm zs) = c := ⟨_, rfl⟩
    rw [hcd] at hcfg
    have hck := chk_dec (strm zs)
    rw [hcd] at hck
    have HCK := Lib.hid hck
    have HIN := Lib.hid (cfgIn_chk hck)
    obtain ⟨pa, pn, pc, sa, sn, sc, rfl, hl⟩ := hcfg.isCfg
    have H1 := Lib.hid (hl.alloc (.cells (cc c pa pn pc sa sn sc) 26))
    have X1 := Lib.hid (Blk.made w1 26 (cc c pa pn pc sa sn sc))
    have B1 := Lib.hid (hb.alloc hb.size (.cells (cc c pa pn pc sa sn sc) 26))
    clear hl hb hcd hck hcfg HD
    go_wp2_with fail
    generalize w1.alloc (.cells (cc c pa pn pc sa sn sc) 26) = W at *
    generalize w1.heap.size = g at *
    (with_reducible refine (new_any H1.out _ _).mono ?_)
    rintro e w2 ⟨rfl, hb⟩
    rw [if_pos HCK.out, HCK.out]
    have X2 := Lib.hid (X1.out.below hb)
    have B2 := Lib.hid (B1.out.trans (hb.mono B1.out.size))
    clear hb H1 X1 B1
    go_upto_region 5 with fail
    have S0 := Lib.hid (show LawS w g w2.heap.size c pa pn pc sa sn sc (w2.alloc (.cells (lcells c) 30)) from ⟨X2.out.alloc _, Blk.made w2 30 (lcells c), B2.out.alloc B2.out.size _⟩)
    generalize w2.alloc (.cells (lcells c) 30) = W2 at *
    generalize w2.heap.size = h at *
    clear X2 B2
    go_wp2_with fail
    (with_reducible refine (awake_any _).mono ?_)
    rintro e w3 ⟨rfl, hb⟩
    have S1 := Lib.hid (S0.out.below hb)
    clear hb S0
    go_upto_region 9 with fail
    have hin := HIN.out
    have i_wo := hin.wo
    have i_le := hin.le
    have i_cl := hin.cl
    have i_ta := hin.ta
    have i_he := hin.he
    have hj := HJ.out
    have V0 := Lib.hid (show rSlot c (-1 - i) = -1 from ixs_out (by omega))
    have V1 := Lib.hid (show rSlot c c.he = -1 from ixs_out (by omega))
    have V2 := Lib.hid (show rSleepers c c.cl = -1 from ixs_out (by omega))
    have V3 := Lib.hid (show rEpoch c c.wo = -1 from ixs_out (by omega))
    have V4 := Lib.hid (show rBitmap c (-1 - i) = -1 from ixs_out (by omega))
    have V5 := Lib.hid (show rQueue c c.wo 0 = (-1, -1, -1, 0) from rQueue_out (fun h => by have := h.2.1; omega))
    have V6 := Lib.hid (show rQueue c 0 c.le = (-1, -1, -1, 0) from rQueue_out (fun h => by have := h.2.2.2; omega))
    have V7 := Lib.hid (show rQueue c (-1 - i) 0 = (-1, -1, -1, 0) from rQueue_out (fun h => by have h1 := h.1; have h2 := h.2.1; omega))
    have V8 := Lib.hid (show rTask c c.ta 0 = -1 from rTask_out (by omega))
    have V9 := Lib.hid (show rTask c (-1 - i) 4 = -1 from rTask_out (by omega))
    have hq : ∀ u, (Op.equalIn 10000 44 (.agg (qcells (-1) (-1) (-1) 0)) (.agg (qcells (-1) (-1) (-1) 0))).run Try.prog u = .ok true u := fun u => que_eq (-1, -1, -1, 0) (-1, -1, -1, 0) u
    clear hin i_wo i_le i_cl i_ta i_he hj HJ
    obtain ⟨x0, x1, x2, x3, x4, x5, x6, x7, x8, x9, x10⟩ := eleven S1.out.x
    go_upto_region 10 with fail
    have O1 := Lib.hid (show OutS w g h w3.heap.size c pa pn pc sa sn sc (w3.alloc (.cells (qcells (-1) (-1) (-1) 0) 44)) from ⟨S1.out.alloc _, Blk.made w3 44 (qcells (-1) (-1) (-1) 0)⟩)
    generalize w3.alloc (.cells (qcells (-1) (-1) (-1) 0) 44) = W3 at *
    generalize w3.heap.size = t at *
    clear S1 HCK x0 x1 x2 x3 x4 x5 x6 x7 x8 x9 x10
    refine wp_region_seq (S := OutS w g h t c pa pn pc sa sn sc) [0, 1, 2, 3, 4, 5, 6, 7, 8, 9, 10, 11, 12, 13, 14, 15, 16, 17, 18, 19, 20, 21, 22, 23, 24, 25, 26, 27, 28, 29, 30, 31, 32, 33, 34, 35, 36, 37, 38, 39, 40, 41, 42, 43, 44, 45, 46, 47, 48, 49, 50, 51, 52, 53, 54, 55, 56, 57, 58, 59, 60, 61, 62, 63, 64, 65, 66, 67] (by kernel_rfl) (by kernel_rfl) (by kernel_rfl) (by kernel_rfl) (by kernel_rfl) (show OutS w g h t c pa pn pc sa sn sc W3.drew from O1.out.below (below_drew (Below.refl _ _))) ?_
    refine SeqS.valD (v := .agg (lcells c)) 34 rfl (by kernel_rfl) (yields_row (by kernel_rfl) _ _ rfl h (by kernel_rfl) 30 _ (fun u hu => hu.s.l) _ Try.underlying30 rfl (by kernel_rfl)) ?_
    simp only [List.setIfInBounds_toArray, List.set_cons_zero, List.set_cons_succ]
    refine SeqS.valD (v := .int .i64 (-1 - i)) 35 rfl (by kernel_rfl) (Or.inl ⟨by kernel_rfl, fun u hu => by (go_simp)⟩) ?_
    simp only [List.setIfInBounds_toArray, List.set_cons_zero, List.set_cons_succ]
    refine SeqS.callD 36 (.int .i64 (-1)) rfl (by kernel_rfl) (by kernel_rfl) (fun u hu K hK => ?_) ?_
    · go_simp
      go_at_call 19
      (with_reducible refine (lslot_any HIN.out _).mono ?_)
      rintro e u1 ⟨rfl, b⟩
      rw [V0.out]
      exact hK.out _ _ (by kernel_rfl) (hu.below b)
    simp only [List.setIfInBounds_toArray, List.set_cons_zero, List.set_cons_succ]
    refine SeqS.valD (v := .bool true) 37 rfl (by kernel_rfl) (Or.inl ⟨by kernel_rfl, fun u hu => by (go_simp)⟩) ?_
    simp only [List.setIfInBounds_toArray, List.set_cons_zero, List.set_cons_succ]
    refine SeqS.valD (v := .bool true) 38 rfl (by kernel_rfl) (Or.inl ⟨by kernel_rfl, fun u hu => by (go_simp)⟩) ?_
    simp only [List.setIfInBounds_toArray, List.set_cons_zero, List.set_cons_succ]
    refine SeqS.valD (v := .agg (lcells c)) 39 rfl (by kernel_rfl) (yields_row (by kernel_rfl) _ _ rfl h (by kernel_rfl) 30 _ (fun u hu => hu.s.l) _ Try.underlying30 rfl (by kernel_rfl)) ?_
    simp only [List.setIfInBounds_toArray, List.set_cons_zero, List.set_cons_succ]
    refine SeqS.valD (v := .pointer (some ⟨g, 5, none⟩)) 40 rfl (by kernel_rfl) (Or.inl ⟨by kernel_rfl, fun u hu => by (go_simp)⟩) ?_
    simp only [List.setIfInBounds_toArray, List.set_cons_zero, List.set_cons_succ]
    refine SeqS.valD (v := .int .i64 c.he) 41 rfl (by kernel_rfl) (Or.inl ⟨by kernel_rfl, fun u hu => by (have k := hu.s.x.at_ 5; go_simp)⟩) ?_
    simp only [List.setIfInBounds_toArray, List.set_cons_zero, List.set_cons_succ]
    refine SeqS.callD 42 (.int .i64 (-1)) rfl (by kernel_rfl) (by kernel_rfl) (fun u hu K hK => ?_) ?_
    · go_simp
      go_at_call 19
      (with_reducible refine (lslot_any HIN.out _).mono ?_)
      rintro e u1 ⟨rfl, b⟩
      rw [V1.out]
      exact hK.out _ _ (by kernel_rfl) (hu.below b)
    simp only [List.setIfInBounds_toArray, List.set_cons_zero, List.set_cons_succ]
    refine SeqS.valD (v := .bool true) 43 rfl (by kernel_rfl) (Or.inl ⟨by kernel_rfl, fun u hu => by (go_simp)⟩) ?_
    simp only [List.setIfInBounds_toArray, List.set_cons_zero, List.set_cons_succ]
    refine SeqS.valD (v := .bool true) 44 rfl (by kernel_rfl) (Or.inl ⟨by kernel_rfl, fun u hu => by (go_simp)⟩) ?_
    simp only [List.setIfInBounds_toArray, List.set_cons_zero, List.set_cons_succ]
    refine SeqS.valD (v := .bool true) 45 rfl (by kernel_rfl) (Or.inl ⟨by kernel_rfl, fun u hu => by (go_simp)⟩) ?_
    simp only [List.setIfInBounds_toArray, List.set_cons_zero, List.set_cons_succ]
    refine SeqS.valD (v := .agg (lcells c)) 46 rfl (by kernel_rfl) (yields_row (by kernel_rfl) _ _ rfl h (by kernel_rfl) 30 _ (fun u hu => hu.s.l) _ Try.underlying30 rfl (by kernel_rfl)) ?_
    simp only [List.setIfInBounds_toArray, List.set_cons_zero, List.set_cons_succ]
    refine SeqS.valD (v := .pointer (some ⟨g, 2, none⟩)) 47 rfl (by kernel_rfl) (Or.inl ⟨by kernel_rfl, fun u hu => by (go_simp)⟩) ?_
    simp only [List.setIfInBounds_toArray, List.set_cons_zero, List.set_cons_succ]
    refine SeqS.valD (v := .int .i64 c.cl) 48 rfl (by kernel_rfl) (Or.inl ⟨by kernel_rfl, fun u hu => by (have k := hu.s.x.at_ 2; go_simp)⟩) ?_
    simp only [List.setIfInBounds_toArray, List.set_cons_zero, List.set_cons_succ]
    refine SeqS.callD 49 (.int .i64 (-1)) rfl (by kernel_rfl) (by kernel_rfl) (fun u hu K hK => ?_) ?_
    · go_simp
      go_at_call 20
      (with_reducible refine (lsleepers_any HIN.out _).mono ?_)
      rintro e u1 ⟨rfl, b⟩
      rw [V2.out]
      exact hK.out _ _ (by kernel_rfl) (hu.below b)
    simp only [List.setIfInBounds_toArray, List.set_cons_zero, List.set_cons_succ]
    refine SeqS.valD (v := .bool true) 50 rfl (by kernel_rfl) (Or.inl ⟨by kernel_rfl, fun u hu => by (go_simp)⟩) ?_
    simp only [List.setIfInBounds_toArray, List.set_cons_zero, List.set_cons_succ]
    refine SeqS.valD (v := .bool true) 51 rfl (by kernel_rfl) (Or.inl ⟨by kernel_rfl, fun u hu => by (go_simp)⟩) ?_
    simp only [List.setIfInBounds_toArray, List.set_cons_zero, List.set_cons_succ]
    refine SeqS.valD (v := .bool true) 52 rfl (by kernel_rfl) (Or.inl ⟨by kernel_rfl, fun u hu => by (go_simp)⟩) ?_
    simp only [List.setIfInBounds_toArray, List.set_cons_zero, List.set_cons_succ]
    refine SeqS.valD (v := .agg (lcells c)) 53 rfl (by kernel_rfl) (yields_row (by kernel_rfl) _ _ rfl h (by kernel_rfl) 30 _ (fun u hu => hu.s.l) _ Try.underlying30 rfl (by kernel_rfl)) ?_
    simp only [List.setIfInBounds_toArray, List.set_cons_zero, List.set_cons_succ]
    refine SeqS.valD (v := .pointer (some ⟨g, 0, none⟩)) 54 rfl (by kernel_rfl) (Or.inl ⟨by kernel_rfl, fun u hu => by (go_simp)⟩) ?_
    simp only [List.setIfInBounds_toArray, List.set_cons_zero, List.set_cons_succ]
    refine SeqS.valD (v := .int .i64 c.wo) 55 rfl (by kernel_rfl) (Or.inl ⟨by kernel_rfl, fun u hu => by (have k := hu.s.x.at_ 0; go_simp)⟩) ?_
    simp only [List.setIfInBounds_toArray, List.set_cons_zero, List.set_cons_succ]
    refine SeqS.callD 56 (.int .i64 (-1)) rfl (by kernel_rfl) (by kernel_rfl) (fun u hu K hK => ?_) ?_
    · go_simp
      go_at_call 21
      (with_reducible refine (lepoch_any HIN.out _).mono ?_)
      rintro e u1 ⟨rfl, b⟩
      rw [V3.out]
      exact hK.out _ _ (by kernel_rfl) (hu.below b)
    simp only [List.setIfInBounds_toArray, List.set_cons_zero, List.set_cons_succ]
    refine SeqS.valD (v := .bool true) 57 rfl (by kernel_rfl) (Or.inl ⟨by kernel_rfl, fun u hu => by (go_simp)⟩) ?_
    simp only [List.setIfInBounds_toArray, List.set_cons_zero, List.set_cons_succ]
    refine SeqS.valD (v := .bool true) 58 rfl (by kernel_rfl) (Or.inl ⟨by kernel_rfl, fun u hu => by (go_simp)⟩) ?_
    simp only [List.setIfInBounds_toArray, List.set_cons_zero, List.set_cons_succ]
    refine SeqS.valD (v := .bool true) 59 rfl (by kernel_rfl) (Or.inl ⟨by kernel_rfl, fun u hu => by (go_simp)⟩) ?_
    simp only [List.setIfInBounds_toArray, List.set_cons_zero, List.set_cons_succ]
    refine SeqS.valD (v := .agg (lcells c)) 60 rfl (by kernel_rfl) (yields_row (by kernel_rfl) _ _ rfl h (by kernel_rfl) 30 _ (fun u hu => hu.s.l) _ Try.underlying30 rfl (by kernel_rfl)) ?_
    simp only [List.setIfInBounds_toArray, List.set_cons_zero, List.set_cons_succ]
    refine SeqS.valD (v := .int .i64 (-1 - i)) 61 rfl (by kernel_rfl) (Or.inl ⟨by kernel_rfl, fun u hu => by (go_simp)⟩) ?_
    simp only [List.setIfInBounds_toArray, List.set_cons_zero, List.set_cons_succ]
    refine SeqS.callD 62 (.int .i64 (-1)) rfl (by kernel_rfl) (by kernel_rfl) (fun u hu K hK => ?_) ?_
    · go_simp
      go_at_call 22
      (with_reducible refine (lbitmap_any HIN.out _).mono ?_)
      rintro e u1 ⟨rfl, b⟩
      rw [V4.out]
      exact hK.out _ _ (by kernel_rfl) (hu.below b)
    simp only [List.setIfInBounds_toArray, List.set_cons_zero, List.set_cons_succ]
    refine SeqS.valD (v := .bool true) 63 rfl (by kernel_rfl) (Or.inl ⟨by kernel_rfl, fun u hu => by (go_simp)⟩) ?_
    simp only [List.setIfInBounds_toArray, List.set_cons_zero, List.set_cons_succ]
    refine SeqS.valD (v := .bool true) 64 rfl (by kernel_rfl) (Or.inl ⟨by kernel_rfl, fun u hu => by (go_simp)⟩) ?_
    simp only [List.setIfInBounds_toArray, List.set_cons_zero, List.set_cons_succ]
    refine SeqS.valD (v := .bool true) 65 rfl (by kernel_rfl) (Or.inl ⟨by kernel_rfl, fun u hu => by (go_simp)⟩) ?_
    simp only [List.setIfInBounds_toArray, List.set_cons_zero, List.set_cons_succ]
    refine SeqS.valD (v := .agg (lcells c)) 66 rfl (by kernel_rfl) (yields_row (by kernel_rfl) _ _ rfl h (by kernel_rfl) 30 _ (fun u hu => hu.s.l) _ Try.underlying30 rfl (by kernel_rfl)) ?_
    simp only [List.setIfInBounds_toArray, List.set_cons_zero, List.set_cons_succ]
    refine SeqS.valD (v := .pointer (some ⟨g, 0, none⟩)) 67 rfl (by kernel_rfl) (Or.inl ⟨by kernel_rfl, fun u hu => by (go_simp)⟩) ?_
    simp only [List.setIfInBounds_toArray, List.set_cons_zero, List.set_cons_succ]
    refine SeqS.valD (v := .int .i64 c.wo) 68 rfl (by kernel_rfl) (Or.inl ⟨by kernel_rfl, fun u hu => by (have k := hu.s.x.at_ 0; go_simp)⟩) ?_
    simp only [List.setIfInBounds_toArray, List.set_cons_zero, List.set_cons_succ]
    refine SeqS.callD 69 (.agg (qcells (-1) (-1) (-1) 0)) rfl (by kernel_rfl) (by kernel_rfl) (fun u hu K hK => ?_) ?_
    · go_simp
      go_at_call 23
      (with_reducible refine (lqueue_any HIN.out _ _).mono ?_)
      rintro e u1 ⟨rfl, b⟩
      rw [V5.out]
      exact hK.out _ _ (by kernel_rfl) (hu.below b)
    simp only [List.setIfInBounds_toArray, List.set_cons_zero, List.set_cons_succ]
    refine SeqS.valD (v := .agg (qcells (-1) (-1) (-1) 0)) 70 rfl (by kernel_rfl) (yields_row (by kernel_rfl) _ _ rfl t (by kernel_rfl) 44 _ (fun u hu => hu.t) _ Try.underlying44 rfl (by kernel_rfl)) ?_
    simp only [List.setIfInBounds_toArray, List.set_cons_zero, List.set_cons_succ]
    refine SeqS.valD (v := .bool true) 71 rfl (by kernel_rfl) (Or.inl ⟨by kernel_rfl, fun u hu => by (have k := hq u; go_simp)⟩) ?_
    simp only [List.setIfInBounds_toArray, List.set_cons_zero, List.set_cons_succ]
    refine SeqS.valD (v := .bool true) 72 rfl (by kernel_rfl) (Or.inl ⟨by kernel_rfl, fun u hu => by (go_simp)⟩) ?_
    simp only [List.setIfInBounds_toArray, List.set_cons_zero, List.set_cons_succ]
    refine SeqS.valD (v := .bool true) 73 rfl (by kernel_rfl) (Or.inl ⟨by kernel_rfl, fun u hu => by (go_simp)⟩) ?_
    simp only [List.setIfInBounds_toArray, List.set_cons_zero, List.set_cons_succ]
    refine SeqS.valD (v := .agg (lcells c)) 74 rfl (by kernel_rfl) (yields_row (by kernel_rfl) _ _ rfl h (by kernel_rfl) 30 _ (fun u hu => hu.s.l) _ Try.underlying30 rfl (by kernel_rfl)) ?_
    simp only [List.setIfInBounds_toArray, List.set_cons_zero, List.set_cons_succ]
    refine SeqS.valD (v := .pointer (some ⟨g, 1, none⟩)) 75 rfl (by kernel_rfl) (Or.inl ⟨by kernel_rfl, fun u hu => by (go_simp)⟩) ?_
    simp only [List.setIfInBounds_toArray, List.set_cons_zero, List.set_cons_succ]
    refine SeqS.valD (v := .int .i64 c.le) 76 rfl (by kernel_rfl) (Or.inl ⟨by kernel_rfl, fun u hu => by (have k := hu.s.x.at_ 1; go_simp)⟩) ?_
    simp only [List.setIfInBounds_toArray, List.set_cons_zero, List.set_cons_succ]
    refine SeqS.callD 77 (.agg (qcells (-1) (-1) (-1) 0)) rfl (by kernel_rfl) (by kernel_rfl) (fun u hu K hK => ?_) ?_
    · go_simp
      go_at_call 23
      (with_reducible refine (lqueue_any HIN.out _ _).mono ?_)
      rintro e u1 ⟨rfl, b⟩
      rw [V6.out]
      exact hK.out _ _ (by kernel_rfl) (hu.below b)
    simp only [List.setIfInBounds_toArray, List.set_cons_zero, List.set_cons_succ]
    refine SeqS.valD (v := .agg (qcells (-1) (-1) (-1) 0)) 78 rfl (by kernel_rfl) (yields_row (by kernel_rfl) _ _ rfl t (by kernel_rfl) 44 _ (fun u hu => hu.t) _ Try.underlying44 rfl (by kernel_rfl)) ?_
    simp only [List.setIfInBounds_toArray, List.set_cons_zero, List.set_cons_succ]
    refine SeqS.valD (v := .bool true) 79 rfl (by kernel_rfl) (Or.inl ⟨by kernel_rfl, fun u hu => by (have k := hq u; go_simp)⟩) ?_
    simp only [List.setIfInBounds_toArray, List.set_cons_zero, List.set_cons_succ]
    refine SeqS.valD (v := .bool true) 80 rfl (by kernel_rfl) (Or.inl ⟨by kernel_rfl, fun u hu => by (go_simp)⟩) ?_
    simp only [List.setIfInBounds_toArray, List.set_cons_zero, List.set_cons_succ]
    refine SeqS.valD (v := .bool true) 81 rfl (by kernel_rfl) (Or.inl ⟨by kernel_rfl, fun u hu => by (go_simp)⟩) ?_
    simp only [List.setIfInBounds_toArray, List.set_cons_zero, List.set_cons_succ]
    refine SeqS.valD (v := .agg (lcells c)) 82 rfl (by kernel_rfl) (yields_row (by kernel_rfl) _ _ rfl h (by kernel_rfl) 30 _ (fun u hu => hu.s.l) _ Try.underlying30 rfl (by kernel_rfl)) ?_
    simp only [List.setIfInBounds_toArray, List.set_cons_zero, List.set_cons_succ]
    refine SeqS.valD (v := .int .i64 (-1 - i)) 83 rfl (by kernel_rfl) (Or.inl ⟨by kernel_rfl, fun u hu => by (go_simp)⟩) ?_
    simp only [List.setIfInBounds_toArray, List.set_cons_zero, List.set_cons_succ]
    refine SeqS.callD 84 (.agg (qcells (-1) (-1) (-1) 0)) rfl (by kernel_rfl) (by kernel_rfl) (fun u hu K hK => ?_) ?_
    · go_simp
      go_at_call 23
      (with_reducible refine (lqueue_any HIN.out _ _).mono ?_)
      rintro e u1 ⟨rfl, b⟩
      rw [V7.out]
      exact hK.out _ _ (by kernel_rfl) (hu.below b)
    simp only [List.setIfInBounds_toArray, List.set_cons_zero, List.set_cons_succ]
    refine SeqS.valD (v := .agg (qcells (-1) (-1) (-1) 0)) 85 rfl (by kernel_rfl) (yields_row (by kernel_rfl) _ _ rfl t (by kernel_rfl) 44 _ (fun u hu => hu.t) _ Try.underlying44 rfl (by kernel_rfl)) ?_
    simp only [List.setIfInBounds_toArray, List.set_cons_zero, List.set_cons_succ]
    refine SeqS.valD (v := .bool true) 86 rfl (by kernel_rfl) (Or.inl ⟨by kernel_rfl, fun u hu => by (have k := hq u; go_simp)⟩) ?_
    simp only [List.setIfInBounds_toArray, List.set_cons_zero, List.set_cons_succ]
    refine SeqS.valD (v := .bool true) 87 rfl (by kernel_rfl) (Or.inl ⟨by kernel_rfl, fun u hu => by (go_simp)⟩) ?_
    simp only [List.setIfInBounds_toArray, List.set_cons_zero, List.set_cons_succ]
    refine SeqS.valD (v := .bool true) 88 rfl (by kernel_rfl) (Or.inl ⟨by kernel_rfl, fun u hu => by (go_simp)⟩) ?_
    simp only [List.setIfInBounds_toArray, List.set_cons_zero, List.set_cons_succ]
    refine SeqS.valD (v := .agg (lcells c)) 89 rfl (by kernel_rfl) (yields_row (by kernel_rfl) _ _ rfl h (by kernel_rfl) 30 _ (fun u hu => hu.s.l) _ Try.underlying30 rfl (by kernel_rfl)) ?_
    simp only [List.setIfInBounds_toArray, List.set_cons_zero, List.set_cons_succ]
    refine SeqS.valD (v := .pointer (some ⟨g, 3, none⟩)) 90 rfl (by kernel_rfl) (Or.inl ⟨by kernel_rfl, fun u hu => by (go_simp)⟩) ?_
    simp only [List.setIfInBounds_toArray, List.set_cons_zero, List.set_cons_succ]
    refine SeqS.valD (v := .int .i64 c.ta) 91 rfl (by kernel_rfl) (Or.inl ⟨by kernel_rfl, fun u hu => by (have k := hu.s.x.at_ 3; go_simp)⟩) ?_
    simp only [List.setIfInBounds_toArray, List.set_cons_zero, List.set_cons_succ]
    refine SeqS.callD 92 (.int .i64 (-1)) rfl (by kernel_rfl) (by kernel_rfl) (fun u hu K hK => ?_) ?_
    · go_simp
      go_at_call 24
      (with_reducible refine (lstate_any HIN.out _).mono ?_)
      rintro e u1 ⟨rfl, b⟩
      rw [V8.out]
      exact hK.out _ _ (by kernel_rfl) (hu.below b)
    simp only [List.setIfInBounds_toArray, List.set_cons_zero, List.set_cons_succ]
    refine SeqS.valD (v := .bool true) 93 rfl (by kernel_rfl) (Or.inl ⟨by kernel_rfl, fun u hu => by (go_simp)⟩) ?_
    simp only [List.setIfInBounds_toArray, List.set_cons_zero, List.set_cons_succ]
    refine SeqS.valD (v := .bool true) 94 rfl (by kernel_rfl) (Or.inl ⟨by kernel_rfl, fun u hu => by (go_simp)⟩) ?_
    simp only [List.setIfInBounds_toArray, List.set_cons_zero, List.set_cons_succ]
    refine SeqS.valD (v := .bool true) 95 rfl (by kernel_rfl) (Or.inl ⟨by kernel_rfl, fun u hu => by (go_simp)⟩) ?_
    simp only [List.setIfInBounds_toArray, List.set_cons_zero, List.set_cons_succ]
    refine SeqS.valD (v := .agg (lcells c)) 96 rfl (by kernel_rfl) (yields_row (by kernel_rfl) _ _ rfl h (by kernel_rfl) 30 _ (fun u hu => hu.s.l) _ Try.underlying30 rfl (by kernel_rfl)) ?_
    simp only [List.setIfInBounds_toArray, List.set_cons_zero, List.set_cons_succ]
    refine SeqS.valD (v := .int .i64 (-1 - i)) 97 rfl (by kernel_rfl) (Or.inl ⟨by kernel_rfl, fun u hu => by (go_simp)⟩) ?_
    simp only [List.setIfInBounds_toArray, List.set_cons_zero, List.set_cons_succ]
    refine SeqS.callD 98 (.int .i64 (-1)) rfl (by kernel_rfl) (by kernel_rfl) (fun u hu K hK => ?_) ?_
    · go_simp
      go_at_call 28
      (with_reducible refine (lsince_any HIN.out _).mono ?_)
      rintro e u1 ⟨rfl, b⟩
      rw [V9.out]
      exact hK.out _ _ (by kernel_rfl) (hu.below b)
    simp only [List.setIfInBounds_toArray, List.set_cons_zero, List.set_cons_succ]
    refine SeqS.valD (v := .bool true) 99 rfl (by kernel_rfl) (Or.inl ⟨by kernel_rfl, fun u hu => by (go_simp)⟩) ?_
    simp only [List.setIfInBounds_toArray, List.set_cons_zero, List.set_cons_succ]
    refine SeqS.valD (v := .bool true) 100 rfl (by kernel_rfl) (Or.inl ⟨by kernel_rfl, fun u hu => by (go_simp)⟩) ?_
    simp only [List.setIfInBounds_toArray, List.set_cons_zero, List.set_cons_succ]
    refine SeqS.valD (v := .bool true) 4 rfl (by kernel_rfl) (Or.inl ⟨by kernel_rfl, fun u hu => by (go_simp)⟩) ?_
    simp only [List.setIfInBounds_toArray, List.set_cons_zero, List.set_cons_succ]
    refine SeqS.done ?_
    intro W4 hW
    go_wp2
    go_ret
    exact ⟨rfl, hW.s.b⟩
  · have hJ : i < 0 ∨ 1000 ≤ i := by omega
    have HJ := Lib.hid hJ
    clear hJ
    go_enter Try.func5, Try.ntmps5
    go_wp2_with fail
    (with_reducible refine (short_nil _ _ _).mono ?_)
    rintro e w0 ⟨rfl, rfl⟩
    rw [HD.out]
    go_wp2_with fail
    (with_reducible refine (config_any H.out c').mono ?_)
    rintro e w1 ⟨v, rfl, hcfg, hb⟩
    obtain ⟨c, hcd⟩ : ∃ c, decC (strm zs) = c := ⟨_, rfl⟩
    rw [hcd] at hcfg
    have hck := chk_dec (strm zs)
    rw [hcd] at hck
    have HCK := Lib.hid hck
    have HIN := Lib.hid (cfgIn_chk hck)
    obtain ⟨pa, pn, pc, sa, sn, sc, rfl, hl⟩ := hcfg.isCfg
    have H1 := Lib.hid (hl.alloc (.cells (cc c pa pn pc sa sn sc) 26))
    have X1 := Lib.hid (Blk.made w1 26 (cc c pa pn pc sa sn sc))
    have B1 := Lib.hid (hb.alloc hb.size (.cells (cc c pa pn pc sa sn sc) 26))
    clear hl hb hcd hck hcfg HD
    go_wp2_with fail
    generalize w1.alloc (.cells (cc c pa pn pc sa sn sc) 26) = W at *
    generalize w1.heap.size = g at *
    (with_reducible refine (new_any H1.out _ _).mono ?_)
    rintro e w2 ⟨rfl, hb⟩
    rw [if_pos HCK.out, HCK.out]
    have X2 := Lib.hid (X1.out.below hb)
    have B2 := Lib.hid (B1.out.trans (hb.mono B1.out.size))
    clear hb H1 X1 B1
    go_upto_region 5 with fail
    have S0 := Lib.hid (show LawS w g w2.heap.size c pa pn pc sa sn sc (w2.alloc (.cells (lcells c) 30)) from ⟨X2.out.alloc _, Blk.made w2 30 (lcells c), B2.out.alloc B2.out.size _⟩)
    generalize w2.alloc (.cells (lcells c) 30) = W2 at *
    generalize w2.heap.size = h at *
    clear X2 B2
    go_wp2_with fail
    (with_reducible refine (awake_any _).mono ?_)
    rintro e w3 ⟨rfl, hb⟩
    have S1 := Lib.hid (S0.out.below hb)
    clear hb S0
    go_upto_region 9 with fail
    have hin := HIN.out
    have i_wo := hin.wo
    have i_le := hin.le
    have i_cl := hin.cl
    have i_ta := hin.ta
    have i_he := hin.he
    have hj := HJ.out
    have V0 := Lib.hid (show rSlot c (i) = -1 from ixs_out (by omega))
    have V1 := Lib.hid (show rSlot c c.he = -1 from ixs_out (by omega))
    have V2 := Lib.hid (show rSleepers c c.cl = -1 from ixs_out (by omega))
    have V3 := Lib.hid (show rEpoch c c.wo = -1 from ixs_out (by omega))
    have V4 := Lib.hid (show rBitmap c (i) = -1 from ixs_out (by omega))
    have V5 := Lib.hid (show rQueue c c.wo 0 = (-1, -1, -1, 0) from rQueue_out (fun h => by have := h.2.1; omega))
    have V6 := Lib.hid (show rQueue c 0 c.le = (-1, -1, -1, 0) from rQueue_out (fun h => by have := h.2.2.2; omega))
    have V7 := Lib.hid (show rQueue c (i) 0 = (-1, -1, -1, 0) from rQueue_out (fun h => by have h1 := h.1; have h2 := h.2.1; omega))
    have V8 := Lib.hid (show rTask c c.ta 0 = -1 from rTask_out (by omega))
    have V9 := Lib.hid (show rTask c (i) 4 = -1 from rTask_out (by omega))
    have hq : ∀ u, (Op.equalIn 10000 44 (.agg (qcells (-1) (-1) (-1) 0)) (.agg (qcells (-1) (-1) (-1) 0))).run Try.prog u = .ok true u := fun u => que_eq (-1, -1, -1, 0) (-1, -1, -1, 0) u
    clear hin i_wo i_le i_cl i_ta i_he hj HJ
    obtain ⟨x0, x1, x2, x3, x4, x5, x6, x7, x8, x9, x10⟩ := eleven S1.out.x
    go_upto_region 10 with fail
    have O1 := Lib.hid (show OutS w g h w3.heap.size c pa pn pc sa sn sc (w3.alloc (.cells (qcells (-1) (-1) (-1) 0) 44)) from ⟨S1.out.alloc _, Blk.made w3 44 (qcells (-1) (-1) (-1) 0)⟩)
    generalize w3.alloc (.cells (qcells (-1) (-1) (-1) 0) 44) = W3 at *
    generalize w3.heap.size = t at *
    clear S1 HCK x0 x1 x2 x3 x4 x5 x6 x7 x8 x9 x10
    refine wp_region_seq (S := OutS w g h t c pa pn pc sa sn sc) [0, 1, 2, 3, 4, 5, 6, 7, 8, 9, 10, 11, 12, 13, 14, 15, 16, 17, 18, 19, 20, 21, 22, 23, 24, 25, 26, 27, 28, 29, 30, 31, 32, 33, 34, 35, 36, 37, 38, 39, 40, 41, 42, 43, 44, 45, 46, 47, 48, 49, 50, 51, 52, 53, 54, 55, 56, 57, 58, 59, 60, 61, 62, 63, 64, 65, 66, 67] (by kernel_rfl) (by kernel_rfl) (by kernel_rfl) (by kernel_rfl) (by kernel_rfl) (show OutS w g h t c pa pn pc sa sn sc W3.drew from O1.out.below (below_drew (Below.refl _ _))) ?_
    refine SeqS.valD (v := .agg (lcells c)) 34 rfl (by kernel_rfl) (yields_row (by kernel_rfl) _ _ rfl h (by kernel_rfl) 30 _ (fun u hu => hu.s.l) _ Try.underlying30 rfl (by kernel_rfl)) ?_
    simp only [List.setIfInBounds_toArray, List.set_cons_zero, List.set_cons_succ]
    refine SeqS.valD (v := .int .i64 (i)) 35 rfl (by kernel_rfl) (Or.inl ⟨by kernel_rfl, fun u hu => by (go_simp)⟩) ?_
    simp only [List.setIfInBounds_toArray, List.set_cons_zero, List.set_cons_succ]
    refine SeqS.callD 36 (.int .i64 (-1)) rfl (by kernel_rfl) (by kernel_rfl) (fun u hu K hK => ?_) ?_
    · go_simp
      go_at_call 19
      (with_reducible refine (lslot_any HIN.out _).mono ?_)
      rintro e u1 ⟨rfl, b⟩
      rw [V0.out]
      exact hK.out _ _ (by kernel_rfl) (hu.below b)
    simp only [List.setIfInBounds_toArray, List.set_cons_zero, List.set_cons_succ]
    refine SeqS.valD (v := .bool true) 37 rfl (by kernel_rfl) (Or.inl ⟨by kernel_rfl, fun u hu => by (go_simp)⟩) ?_
    simp only [List.setIfInBounds_toArray, List.set_cons_zero, List.set_cons_succ]
    refine SeqS.valD (v := .bool true) 38 rfl (by kernel_rfl) (Or.inl ⟨by kernel_rfl, fun u hu => by (go_simp)⟩) ?_
    simp only [List.setIfInBounds_toArray, List.set_cons_zero, List.set_cons_succ]
    refine SeqS.valD (v := .agg (lcells c)) 39 rfl (by kernel_rfl) (yields_row (by kernel_rfl) _ _ rfl h (by kernel_rfl) 30 _ (fun u hu => hu.s.l) _ Try.underlying30 rfl (by kernel_rfl)) ?_
    simp only [List.setIfInBounds_toArray, List.set_cons_zero, List.set_cons_succ]
    refine SeqS.valD (v := .pointer (some ⟨g, 5, none⟩)) 40 rfl (by kernel_rfl) (Or.inl ⟨by kernel_rfl, fun u hu => by (go_simp)⟩) ?_
    simp only [List.setIfInBounds_toArray, List.set_cons_zero, List.set_cons_succ]
    refine SeqS.valD (v := .int .i64 c.he) 41 rfl (by kernel_rfl) (Or.inl ⟨by kernel_rfl, fun u hu => by (have k := hu.s.x.at_ 5; go_simp)⟩) ?_
    simp only [List.setIfInBounds_toArray, List.set_cons_zero, List.set_cons_succ]
    refine SeqS.callD 42 (.int .i64 (-1)) rfl (by kernel_rfl) (by kernel_rfl) (fun u hu K hK => ?_) ?_
    · go_simp
      go_at_call 19
      (with_reducible refine (lslot_any HIN.out _).mono ?_)
      rintro e u1 ⟨rfl, b⟩
      rw [V1.out]
      exact hK.out _ _ (by kernel_rfl) (hu.below b)
    simp only [List.setIfInBounds_toArray, List.set_cons_zero, List.set_cons_succ]
    refine SeqS.valD (v := .bool true) 43 rfl (by kernel_rfl) (Or.inl ⟨by kernel_rfl, fun u hu => by (go_simp)⟩) ?_
    simp only [List.setIfInBounds_toArray, List.set_cons_zero, List.set_cons_succ]
    refine SeqS.valD (v := .bool true) 44 rfl (by kernel_rfl) (Or.inl ⟨by kernel_rfl, fun u hu => by (go_simp)⟩) ?_
    simp only [List.setIfInBounds_toArray, List.set_cons_zero, List.set_cons_succ]
    refine SeqS.valD (v := .bool true) 45 rfl (by kernel_rfl) (Or.inl ⟨by kernel_rfl, fun u hu => by (go_simp)⟩) ?_
    simp only [List.setIfInBounds_toArray, List.set_cons_zero, List.set_cons_succ]
    refine SeqS.valD (v := .agg (lcells c)) 46 rfl (by kernel_rfl) (yields_row (by kernel_rfl) _ _ rfl h (by kernel_rfl) 30 _ (fun u hu => hu.s.l) _ Try.underlying30 rfl (by kernel_rfl)) ?_
    simp only [List.setIfInBounds_toArray, List.set_cons_zero, List.set_cons_succ]
    refine SeqS.valD (v := .pointer (some ⟨g, 2, none⟩)) 47 rfl (by kernel_rfl) (Or.inl ⟨by kernel_rfl, fun u hu => by (go_simp)⟩) ?_
    simp only [List.setIfInBounds_toArray, List.set_cons_zero, List.set_cons_succ]
    refine SeqS.valD (v := .int .i64 c.cl) 48 rfl (by kernel_rfl) (Or.inl ⟨by kernel_rfl, fun u hu => by (have k := hu.s.x.at_ 2; go_simp)⟩) ?_
    simp only [List.setIfInBounds_toArray, List.set_cons_zero, List.set_cons_succ]
    refine SeqS.callD 49 (.int .i64 (-1)) rfl (by kernel_rfl) (by kernel_rfl) (fun u hu K hK => ?_) ?_
    · go_simp
      go_at_call 20
      (with_reducible refine (lsleepers_any HIN.out _).mono ?_)
      rintro e u1 ⟨rfl, b⟩
      rw [V2.out]
      exact hK.out _ _ (by kernel_rfl) (hu.below b)
    simp only [List.setIfInBounds_toArray, List.set_cons_zero, List.set_cons_succ]
    refine SeqS.valD (v := .bool true) 50 rfl (by kernel_rfl) (Or.inl ⟨by kernel_rfl, fun u hu => by (go_simp)⟩) ?_
    simp only [List.setIfInBounds_toArray, List.set_cons_zero, List.set_cons_succ]
    refine SeqS.valD (v := .bool true) 51 rfl (by kernel_rfl) (Or.inl ⟨by kernel_rfl, fun u hu => by (go_simp)⟩) ?_
    simp only [List.setIfInBounds_toArray, List.set_cons_zero, List.set_cons_succ]
    refine SeqS.valD (v := .bool true) 52 rfl (by kernel_rfl) (Or.inl ⟨by kernel_rfl, fun u hu => by (go_simp)⟩) ?_
    simp only [List.setIfInBounds_toArray, List.set_cons_zero, List.set_cons_succ]
    refine SeqS.valD (v := .agg (lcells c)) 53 rfl (by kernel_rfl) (yields_row (by kernel_rfl) _ _ rfl h (by kernel_rfl) 30 _ (fun u hu => hu.s.l) _ Try.underlying30 rfl (by kernel_rfl)) ?_
    simp only [List.setIfInBounds_toArray, List.set_cons_zero, List.set_cons_succ]
    refine SeqS.valD (v := .pointer (some ⟨g, 0, none⟩)) 54 rfl (by kernel_rfl) (Or.inl ⟨by kernel_rfl, fun u hu => by (go_simp)⟩) ?_
    simp only [List.setIfInBounds_toArray, List.set_cons_zero, List.set_cons_succ]
    refine SeqS.valD (v := .int .i64 c.wo) 55 rfl (by kernel_rfl) (Or.inl ⟨by kernel_rfl, fun u hu => by (have k := hu.s.x.at_ 0; go_simp)⟩) ?_
    simp only [List.setIfInBounds_toArray, List.set_cons_zero, List.set_cons_succ]
    refine SeqS.callD 56 (.int .i64 (-1)) rfl (by kernel_rfl) (by kernel_rfl) (fun u hu K hK => ?_) ?_
    · go_simp
      go_at_call 21
      (with_reducible refine (lepoch_any HIN.out _).mono ?_)
      rintro e u1 ⟨rfl, b⟩
      rw [V3.out]
      exact hK.out _ _ (by kernel_rfl) (hu.below b)
    simp only [List.setIfInBounds_toArray, List.set_cons_zero, List.set_cons_succ]
    refine SeqS.valD (v := .bool true) 57 rfl (by kernel_rfl) (Or.inl ⟨by kernel_rfl, fun u hu => by (go_simp)⟩) ?_
    simp only [List.setIfInBounds_toArray, List.set_cons_zero, List.set_cons_succ]
    refine SeqS.valD (v := .bool true) 58 rfl (by kernel_rfl) (Or.inl ⟨by kernel_rfl, fun u hu => by (go_simp)⟩) ?_
    simp only [List.setIfInBounds_toArray, List.set_cons_zero, List.set_cons_succ]
    refine SeqS.valD (v := .bool true) 59 rfl (by kernel_rfl) (Or.inl ⟨by kernel_rfl, fun u hu => by (go_simp)⟩) ?_
    simp only [List.setIfInBounds_toArray, List.set_cons_zero, List.set_cons_succ]
    refine SeqS.valD (v := .agg (lcells c)) 60 rfl (by kernel_rfl) (yields_row (by kernel_rfl) _ _ rfl h (by kernel_rfl) 30 _ (fun u hu => hu.s.l) _ Try.underlying30 rfl (by kernel_rfl)) ?_
    simp only [List.setIfInBounds_toArray, List.set_cons_zero, List.set_cons_succ]
    refine SeqS.valD (v := .int .i64 (i)) 61 rfl (by kernel_rfl) (Or.inl ⟨by kernel_rfl, fun u hu => by (go_simp)⟩) ?_
    simp only [List.setIfInBounds_toArray, List.set_cons_zero, List.set_cons_succ]
    refine SeqS.callD 62 (.int .i64 (-1)) rfl (by kernel_rfl) (by kernel_rfl) (fun u hu K hK => ?_) ?_
    · go_simp
      go_at_call 22
      (with_reducible refine (lbitmap_any HIN.out _).mono ?_)
      rintro e u1 ⟨rfl, b⟩
      rw [V4.out]
      exact hK.out _ _ (by kernel_rfl) (hu.below b)
    simp only [List.setIfInBounds_toArray, List.set_cons_zero, List.set_cons_succ]
    refine SeqS.valD (v := .bool true) 63 rfl (by kernel_rfl) (Or.inl ⟨by kernel_rfl, fun u hu => by (go_simp)⟩) ?_
    simp only [List.setIfInBounds_toArray, List.set_cons_zero, List.set_cons_succ]
    refine SeqS.valD (v := .bool true) 64 rfl (by kernel_rfl) (Or.inl ⟨by kernel_rfl, fun u hu => by (go_simp)⟩) ?_
    simp only [List.setIfInBounds_toArray, List.set_cons_zero, List.set_cons_succ]
    refine SeqS.valD (v := .bool true) 65 rfl (by kernel_rfl) (Or.inl ⟨by kernel_rfl, fun u hu => by (go_simp)⟩) ?_
    simp only [List.setIfInBounds_toArray, List.set_cons_zero, List.set_cons_succ]
    refine SeqS.valD (v := .agg (lcells c)) 66 rfl (by kernel_rfl) (yields_row (by kernel_rfl) _ _ rfl h (by kernel_rfl) 30 _ (fun u hu => hu.s.l) _ Try.underlying30 rfl (by kernel_rfl)) ?_
    simp only [List.setIfInBounds_toArray, List.set_cons_zero, List.set_cons_succ]
    refine SeqS.valD (v := .pointer (some ⟨g, 0, none⟩)) 67 rfl (by kernel_rfl) (Or.inl ⟨by kernel_rfl, fun u hu => by (go_simp)⟩) ?_
    simp only [List.setIfInBounds_toArray, List.set_cons_zero, List.set_cons_succ]
    refine SeqS.valD (v := .int .i64 c.wo) 68 rfl (by kernel_rfl) (Or.inl ⟨by kernel_rfl, fun u hu => by (have k := hu.s.x.at_ 0; go_simp)⟩) ?_
    simp only [List.setIfInBounds_toArray, List.set_cons_zero, List.set_cons_succ]
    refine SeqS.callD 69 (.agg (qcells (-1) (-1) (-1) 0)) rfl (by kernel_rfl) (by kernel_rfl) (fun u hu K hK => ?_) ?_
    · go_simp
      go_at_call 23
      (with_reducible refine (lqueue_any HIN.out _ _).mono ?_)
      rintro e u1 ⟨rfl, b⟩
      rw [V5.out]
      exact hK.out _ _ (by kernel_rfl) (hu.below b)
    simp only [List.setIfInBounds_toArray, List.set_cons_zero, List.set_cons_succ]
    refine SeqS.valD (v := .agg (qcells (-1) (-1) (-1) 0)) 70 rfl (by kernel_rfl) (yields_row (by kernel_rfl) _ _ rfl t (by kernel_rfl) 44 _ (fun u hu => hu.t) _ Try.underlying44 rfl (by kernel_rfl)) ?_
    simp only [List.setIfInBounds_toArray, List.set_cons_zero, List.set_cons_succ]
    refine SeqS.valD (v := .bool true) 71 rfl (by kernel_rfl) (Or.inl ⟨by kernel_rfl, fun u hu => by (have k := hq u; go_simp)⟩) ?_
    simp only [List.setIfInBounds_toArray, List.set_cons_zero, List.set_cons_succ]
    refine SeqS.valD (v := .bool true) 72 rfl (by kernel_rfl) (Or.inl ⟨by kernel_rfl, fun u hu => by (go_simp)⟩) ?_
    simp only [List.setIfInBounds_toArray, List.set_cons_zero, List.set_cons_succ]
    refine SeqS.valD (v := .bool true) 73 rfl (by kernel_rfl) (Or.inl ⟨by kernel_rfl, fun u hu => by (go_simp)⟩) ?_
    simp only [List.setIfInBounds_toArray, List.set_cons_zero, List.set_cons_succ]
    refine SeqS.valD (v := .agg (lcells c)) 74 rfl (by kernel_rfl) (yields_row (by kernel_rfl) _ _ rfl h (by kernel_rfl) 30 _ (fun u hu => hu.s.l) _ Try.underlying30 rfl (by kernel_rfl)) ?_
    simp only [List.setIfInBounds_toArray, List.set_cons_zero, List.set_cons_succ]
    refine SeqS.valD (v := .pointer (some ⟨g, 1, none⟩)) 75 rfl (by kernel_rfl) (Or.inl ⟨by kernel_rfl, fun u hu => by (go_simp)⟩) ?_
    simp only [List.setIfInBounds_toArray, List.set_cons_zero, List.set_cons_succ]
    refine SeqS.valD (v := .int .i64 c.le) 76 rfl (by kernel_rfl) (Or.inl ⟨by kernel_rfl, fun u hu => by (have k := hu.s.x.at_ 1; go_simp)⟩) ?_
    simp only [List.setIfInBounds_toArray, List.set_cons_zero, List.set_cons_succ]
    refine SeqS.callD 77 (.agg (qcells (-1) (-1) (-1) 0)) rfl (by kernel_rfl) (by kernel_rfl) (fun u hu K hK => ?_) ?_
    · go_simp
      go_at_call 23
      (with_reducible refine (lqueue_any HIN.out _ _).mono ?_)
      rintro e u1 ⟨rfl, b⟩
      rw [V6.out]
      exact hK.out _ _ (by kernel_rfl) (hu.below b)
    simp only [List.setIfInBounds_toArray, List.set_cons_zero, List.set_cons_succ]
    refine SeqS.valD (v := .agg (qcells (-1) (-1) (-1) 0)) 78 rfl (by kernel_rfl) (yields_row (by kernel_rfl) _ _ rfl t (by kernel_rfl) 44 _ (fun u hu => hu.t) _ Try.underlying44 rfl (by kernel_rfl)) ?_
    simp only [List.setIfInBounds_toArray, List.set_cons_zero, List.set_cons_succ]
    refine SeqS.valD (v := .bool true) 79 rfl (by kernel_rfl) (Or.inl ⟨by kernel_rfl, fun u hu => by (have k := hq u; go_simp)⟩) ?_
    simp only [List.setIfInBounds_toArray, List.set_cons_zero, List.set_cons_succ]
    refine SeqS.valD (v := .bool true) 80 rfl (by kernel_rfl) (Or.inl ⟨by kernel_rfl, fun u hu => by (go_simp)⟩) ?_
    simp only [List.setIfInBounds_toArray, List.set_cons_zero, List.set_cons_succ]
    refine SeqS.valD (v := .bool true) 81 rfl (by kernel_rfl) (Or.inl ⟨by kernel_rfl, fun u hu => by (go_simp)⟩) ?_
    simp only [List.setIfInBounds_toArray, List.set_cons_zero, List.set_cons_succ]
    refine SeqS.valD (v := .agg (lcells c)) 82 rfl (by kernel_rfl) (yields_row (by kernel_rfl) _ _ rfl h (by kernel_rfl) 30 _ (fun u hu => hu.s.l) _ Try.underlying30 rfl (by kernel_rfl)) ?_
    simp only [List.setIfInBounds_toArray, List.set_cons_zero, List.set_cons_succ]
    refine SeqS.valD (v := .int .i64 (i)) 83 rfl (by kernel_rfl) (Or.inl ⟨by kernel_rfl, fun u hu => by (go_simp)⟩) ?_
    simp only [List.setIfInBounds_toArray, List.set_cons_zero, List.set_cons_succ]
    refine SeqS.callD 84 (.agg (qcells (-1) (-1) (-1) 0)) rfl (by kernel_rfl) (by kernel_rfl) (fun u hu K hK => ?_) ?_
    · go_simp
      go_at_call 23
      (with_reducible refine (lqueue_any HIN.out _ _).mono ?_)
      rintro e u1 ⟨rfl, b⟩
      rw [V7.out]
      exact hK.out _ _ (by kernel_rfl) (hu.below b)
    simp only [List.setIfInBounds_toArray, List.set_cons_zero, List.set_cons_succ]
    refine SeqS.valD (v := .agg (qcells (-1) (-1) (-1) 0)) 85 rfl (by kernel_rfl) (yields_row (by kernel_rfl) _ _ rfl t (by kernel_rfl) 44 _ (fun u hu => hu.t) _ Try.underlying44 rfl (by kernel_rfl)) ?_
    simp only [List.setIfInBounds_toArray, List.set_cons_zero, List.set_cons_succ]
    refine SeqS.valD (v := .bool true) 86 rfl (by kernel_rfl) (Or.inl ⟨by kernel_rfl, fun u hu => by (have k := hq u; go_simp)⟩) ?_
    simp only [List.setIfInBounds_toArray, List.set_cons_zero, List.set_cons_succ]
    refine SeqS.valD (v := .bool true) 87 rfl (by kernel_rfl) (Or.inl ⟨by kernel_rfl, fun u hu => by (go_simp)⟩) ?_
    simp only [List.setIfInBounds_toArray, List.set_cons_zero, List.set_cons_succ]
    refine SeqS.valD (v := .bool true) 88 rfl (by kernel_rfl) (Or.inl ⟨by kernel_rfl, fun u hu => by (go_simp)⟩) ?_
    simp only [List.setIfInBounds_toArray, List.set_cons_zero, List.set_cons_succ]
    refine SeqS.valD (v := .agg (lcells c)) 89 rfl (by kernel_rfl) (yields_row (by kernel_rfl) _ _ rfl h (by kernel_rfl) 30 _ (fun u hu => hu.s.l) _ Try.underlying30 rfl (by kernel_rfl)) ?_
    simp only [List.setIfInBounds_toArray, List.set_cons_zero, List.set_cons_succ]
    refine SeqS.valD (v := .pointer (some ⟨g, 3, none⟩)) 90 rfl (by kernel_rfl) (Or.inl ⟨by kernel_rfl, fun u hu => by (go_simp)⟩) ?_
    simp only [List.setIfInBounds_toArray, List.set_cons_zero, List.set_cons_succ]
    refine SeqS.valD (v := .int .i64 c.ta) 91 rfl (by kernel_rfl) (Or.inl ⟨by kernel_rfl, fun u hu => by (have k := hu.s.x.at_ 3; go_simp)⟩) ?_
    simp only [List.setIfInBounds_toArray, List.set_cons_zero, List.set_cons_succ]
    refine SeqS.callD 92 (.int .i64 (-1)) rfl (by kernel_rfl) (by kernel_rfl) (fun u hu K hK => ?_) ?_
    · go_simp
      go_at_call 24
      (with_reducible refine (lstate_any HIN.out _).mono ?_)
      rintro e u1 ⟨rfl, b⟩
      rw [V8.out]
      exact hK.out _ _ (by kernel_rfl) (hu.below b)
    simp only [List.setIfInBounds_toArray, List.set_cons_zero, List.set_cons_succ]
    refine SeqS.valD (v := .bool true) 93 rfl (by kernel_rfl) (Or.inl ⟨by kernel_rfl, fun u hu => by (go_simp)⟩) ?_
    simp only [List.setIfInBounds_toArray, List.set_cons_zero, List.set_cons_succ]
    refine SeqS.valD (v := .bool true) 94 rfl (by kernel_rfl) (Or.inl ⟨by kernel_rfl, fun u hu => by (go_simp)⟩) ?_
    simp only [List.setIfInBounds_toArray, List.set_cons_zero, List.set_cons_succ]
    refine SeqS.valD (v := .bool true) 95 rfl (by kernel_rfl) (Or.inl ⟨by kernel_rfl, fun u hu => by (go_simp)⟩) ?_
    simp only [List.setIfInBounds_toArray, List.set_cons_zero, List.set_cons_succ]
    refine SeqS.valD (v := .agg (lcells c)) 96 rfl (by kernel_rfl) (yields_row (by kernel_rfl) _ _ rfl h (by kernel_rfl) 30 _ (fun u hu => hu.s.l) _ Try.underlying30 rfl (by kernel_rfl)) ?_
    simp only [List.setIfInBounds_toArray, List.set_cons_zero, List.set_cons_succ]
    refine SeqS.valD (v := .int .i64 (i)) 97 rfl (by kernel_rfl) (Or.inl ⟨by kernel_rfl, fun u hu => by (go_simp)⟩) ?_
    simp only [List.setIfInBounds_toArray, List.set_cons_zero, List.set_cons_succ]
    refine SeqS.callD 98 (.int .i64 (-1)) rfl (by kernel_rfl) (by kernel_rfl) (fun u hu K hK => ?_) ?_
    · go_simp
      go_at_call 28
      (with_reducible refine (lsince_any HIN.out _).mono ?_)
      rintro e u1 ⟨rfl, b⟩
      rw [V9.out]
      exact hK.out _ _ (by kernel_rfl) (hu.below b)
    simp only [List.setIfInBounds_toArray, List.set_cons_zero, List.set_cons_succ]
    refine SeqS.valD (v := .bool true) 99 rfl (by kernel_rfl) (Or.inl ⟨by kernel_rfl, fun u hu => by (go_simp)⟩) ?_
    simp only [List.setIfInBounds_toArray, List.set_cons_zero, List.set_cons_succ]
    refine SeqS.valD (v := .bool true) 100 rfl (by kernel_rfl) (Or.inl ⟨by kernel_rfl, fun u hu => by (go_simp)⟩) ?_
    simp only [List.setIfInBounds_toArray, List.set_cons_zero, List.set_cons_succ]
    refine SeqS.valD (v := .bool true) 4 rfl (by kernel_rfl) (Or.inl ⟨by kernel_rfl, fun u hu => by (go_simp)⟩) ?_
    simp only [List.setIfInBounds_toArray, List.set_cons_zero, List.set_cons_succ]
    refine SeqS.done ?_
    intro W4 hW
    go_wp2
    go_ret
    exact ⟨rfl, hW.s.b⟩
end Go.Proofs.Ytffcclgcgiilmaa
