/-
  The law OrderChecks: Small, light, agree.
-/
import Derived.Test.YtpmdmeolehabjaaOrdI
import Derived.Test.YtpmdmeolehabjaaRIntsK
namespace Go.Proofs.Ytpmdmeolehabjaa
open Go Go.RowKit
set_option linter.unusedSimpArgs false
set_option linter.unusedVariables false

theorem own_ints {w : World} {B : Nat} {v : Value} {l : List Int} (h : OwnI w B v l) : ∃ a c, v = .slice a l.length c ∧ InInts w a l.length l := by
  obtain ⟨a, c, rfl, hc, hcell⟩ := h.form
  refine ⟨a, c, rfl, rfl, ?_, fun i hi => ?_⟩
  · rcases h.2 with ⟨_, h2⟩ | ⟨g, cap, cur, e, _, _, hn, hm, _⟩
    · rw [h2]
      exact Nat.zero_le _
    · exact Nat.le_trans hn hm
  · obtain ⟨g, rfl, hh⟩ := hcell i hi
    refine ⟨_, rfl, (World.block_lt_of_cell? w ⟨g, i, none⟩ hh : g < w.heap.size), ?_⟩
    rw [Addr.add_lit, Nat.zero_add]
    exact hh
/-- Some Bool is returned. -/
def SomeB (w : World) (e : Ending) (w' : World) : Prop := (∃ b, e = .returned (.bool b)) ∧ Below w.heap.size w w'
set_option maxHeartbeats 4000000 in
theorem small_any {w : World} {c : Cfg} {pa : Option Addr} {pn : Nat} {sa : Option Addr} {sn : Nat} (h : Lists w 0 c pa pn sa sn) (pc sc : Nat) :
    Calls Try.prog 11 #[cv c pa pn pc sa sn sc] w (SomeB w) := by
  have hX := Blk.made w 25 (cc c pa pn pc sa sn sc)
  have hb := below_one w (.cells (cc c pa pn pc sa sn sc) 25)
  have HB := Lib.hid hb
  have HP := Lib.hid (h.below hb).pr
  have hpm := h.pr.2.1
  have hsm := h.su.2.1
  unfold maxLen at hpm hsm
  obtain ⟨e0, e1, e2, e3, e4, e5, e6, e7, e8, e9, e10⟩ := eleven hX
  clear hX hb h
  by_cases h0 : 16 < c.wo
  · have d0 : decide (16 < c.wo) = true := decide_eq_true h0
    have H0 := Lib.hid h0
    clear h0
    go_enter Try.func11, Try.ntmps11
    go_wp2
    go_ret
    exact ⟨⟨_, rfl⟩, HB.out⟩
  have d0 : decide (16 < c.wo) = false := decide_eq_false h0
  have H0 := Lib.hid h0
  clear h0
  by_cases h1 : 8 < c.le
  · have d1 : decide (8 < c.le) = true := decide_eq_true h1
    have H1 := Lib.hid h1
    clear h1
    go_enter Try.func11, Try.ntmps11
    go_wp2
    go_ret
    exact ⟨⟨_, rfl⟩, HB.out⟩
  have d1 : decide (8 < c.le) = false := decide_eq_false h1
  have H1 := Lib.hid h1
  clear h1
  by_cases h2 : 16 < c.ta
  · have d2 : decide (16 < c.ta) = true := decide_eq_true h2
    have H2 := Lib.hid h2
    clear h2
    go_enter Try.func11, Try.ntmps11
    go_wp2
    go_ret
    exact ⟨⟨_, rfl⟩, HB.out⟩
  have d2 : decide (16 < c.ta) = false := decide_eq_false h2
  have H2 := Lib.hid h2
  clear h2
  by_cases h3 : 8 < c.de
  · have d3 : decide (8 < c.de) = true := decide_eq_true h3
    have H3 := Lib.hid h3
    clear h3
    go_enter Try.func11, Try.ntmps11
    go_wp2
    go_ret
    exact ⟨⟨_, rfl⟩, HB.out⟩
  have d3 : decide (8 < c.de) = false := decide_eq_false h3
  have H3 := Lib.hid h3
  clear h3
  by_cases h4 : 8 < c.he
  · have d4 : decide (8 < c.he) = true := decide_eq_true h4
    have H4 := Lib.hid h4
    clear h4
    go_enter Try.func11, Try.ntmps11
    go_wp2
    go_ret
    exact ⟨⟨_, rfl⟩, HB.out⟩
  have d4 : decide (8 < c.he) = false := decide_eq_false h4
  have H4 := Lib.hid h4
  clear h4
  by_cases h5 : 8 < (pn : Int)
  · have d5 : decide (8 < (pn : Int)) = true := decide_eq_true h5
    have H5 := Lib.hid h5
    clear h5
    go_enter Try.func11, Try.ntmps11
    go_wp2
    go_ret
    exact ⟨⟨_, rfl⟩, HB.out⟩
  have d5 : decide (8 < (pn : Int)) = false := decide_eq_false h5
  by_cases h6 : 12 < (sn : Int)
  · have d6 : decide (12 < (sn : Int)) = true := decide_eq_true h6
    have H6 := Lib.hid h6
    clear h6
    go_enter Try.func11, Try.ntmps11
    go_wp2
    go_ret
    exact ⟨⟨_, rfl⟩, HB.out⟩
  have d6 : decide (12 < (sn : Int)) = false := decide_eq_false h6
  have hpn : pn ≤ 8 := by omega
  have H5 := Lib.hid h5
  have H6 := Lib.hid h6
  clear h5 h6
  go_enter Try.func11, Try.ntmps11
  go_wp2_with fail
  generalize w.alloc (.cells (cc c pa pn pc sa sn sc) 25) = W at *
  go_loopw [3] (fun v wr => ∃ i : Nat, v = .int .i64 i ∧ i ≤ pn ∧ wr = W) (fun v _ => pn - (intOf v).toNat)
  case atStart => exact ⟨0, rfl, Nat.zero_le _, rfl⟩
  case round =>
    obtain ⟨i, rfl, hi, rfl⟩ := hrel
    by_cases hlt : i < pn
    · obtain ⟨y, b, m, cp, p, rfl, hp1, _, _, hc, ht⟩ := HP.out.at_ hlt
      have hmx := ht.2.1
      unfold maxLen at hmx
      clear ht hp1
      have i0 : (0 : Int) ≤ (i : Int) := by omega
      have i1 : (i : Int) < (pn : Int) := by omega
      by_cases hg : 12 < (m : Int)
      · have g0 : decide (12 < (m : Int)) = true := decide_eq_true hg
        have HG := Lib.hid hg
        clear hg
        go_wp2
        go_ret
        exact ⟨⟨_, rfl⟩, HB.out⟩
      · have g0 : decide (12 < (m : Int)) = false := decide_eq_false hg
        have HG := Lib.hid hg
        clear hg
        go_wp2_with fail
        go_roundw
        case rel => exact ⟨i + 1, by go_num, by omega, trivial⟩
        case measure => simp [intOf]; omega
    · obtain rfl : i = pn := by omega
      go_wp2
      go_ret
      exact ⟨⟨_, rfl⟩, HB.out⟩
/-- What light returns. -/
def LightR (es : List Ev) (w : World) (e : Ending) (w' : World) : Prop := (∃ b, e = .returned (.bool b) ∧ (b = true → es.length ≤ 400)) ∧ Below w.heap.size w w'
theorem lightO_any {w : World} {c : Cfg} {pa : Option Addr} {pn : Nat} {sa : Option Addr} {sn : Nat} (h : Lists w 0 c pa pn sa sn) (pc sc : Nat) (la : Option Addr) (es : List Ev) (lc : Nat) :
    Calls Try.prog 4 #[cv c pa pn pc sa sn sc, .slice la es.length lc] w (LightR es w) := by
  have hX := Blk.made w 25 (cc c pa pn pc sa sn sc)
  have hb := below_one w (.cells (cc c pa pn pc sa sn sc) 25)
  have HB := Lib.hid hb
  have HS := Lib.hid (small_any (h.below hb) pc sc)
  obtain ⟨e0, e1, e2, e3, e4, e5, e6, e7, e8, e9, e10⟩ := eleven hX
  clear hX hb h
  by_cases h4 : (es.length : Int) ≤ 400
  · have d0 : decide ((es.length : Int) ≤ 400) = true := decide_eq_true h4
    have H4 := Lib.hid h4
    obtain ⟨L, hL⟩ : ∃ L, es.length = L := ⟨_, rfl⟩
    have HL := Lib.hid hL
    rw [hL] at d0 ⊢
    clear h4 hL
    go_enter Try.func4, Try.ntmps4
    go_wp2_with (with_reducible refine HS.out.mono ?_)
    rintro e w1 ⟨⟨b, rfl⟩, hb1⟩
    have HB1 := Lib.hid (HB.out.trans (hb1.mono HB.out.size))
    clear hb1 HS e0 e1 e2 e3 e4 e5 e6 e7 e8 e9 e10
    cases b
    all_goals
      go_wp2
      go_ret
      exact ⟨⟨_, rfl, fun _ => by have := H4.out; omega⟩, HB1.out⟩
  · have d0 : decide ((es.length : Int) ≤ 400) = false := decide_eq_false h4
    have H4 := Lib.hid h4
    obtain ⟨L, hL⟩ : ∃ L, es.length = L := ⟨_, rfl⟩
    have HL := Lib.hid hL
    rw [hL] at d0 ⊢
    clear h4 hL
    go_enter Try.func4, Try.ntmps4
    go_wp2_with (with_reducible refine HS.out.mono ?_)
    rintro e w1 ⟨⟨b, rfl⟩, hb1⟩
    have HB1 := Lib.hid (HB.out.trans (hb1.mono HB.out.size))
    clear hb1 HS e0 e1 e2 e3 e4 e5 e6 e7 e8 e9 e10
    cases b
    all_goals
      go_wp2
      go_ret
      exact ⟨⟨_, rfl, fun h => by cases h⟩, HB1.out⟩
set_option maxHeartbeats 8000000 in
theorem agreeO_any {w : World} {c : Cfg} {pa : Option Addr} {pn : Nat} (pc : Nat) {sa : Option Addr} {sn : Nat} (sc : Nat) {la : Option Addr} {es : List Ev} (lc : Nat) (hl : Lists w 0 c pa pn sa sn) (he : InE w la es) (hle : es.length ≤ 1000) :
    Calls Try.prog 8 #[cv c pa pn pc sa sn sc, .slice la es.length lc] w (Gives (.bool true) w) := by
  have hX := Blk.made w 25 (cc c pa pn pc sa sn sc)
  have HB := Lib.hid (below_one w (.cells (cc c pa pn pc sa sn sc) 25))
  obtain ⟨e0, e1, e2, e3, e4, e5, e6, e7, e8, e9, e10⟩ := eleven hX
  have HX := Lib.hid hX
  have HC1 := Lib.hid (ocheck_any pc sc lc (hl.below HB.out) (he.below HB.out) hle)
  have HC2 := Lib.hid (fun u (hu : Below w.heap.size w u) => rchk_any pc sc lc (hl.below hu) (he.below hu) hle)
  have HL1 := Lib.hid (fun u (hu : Below w.heap.size w u) => oleft_any pc sc lc (hl.below hu) (he.below hu) hle)
  have HL2 := Lib.hid (fun u (hu : Below w.heap.size w u) => rleft_any pc sc lc (hl.below hu) (he.below hu) hle)
  obtain ⟨L, hL⟩ : ∃ L, es.length = L := ⟨_, rfl⟩
  rw [hL] at HC1 HC2 HL1 HL2 ⊢
  clear hX hl he hL
  go_enter Try.func8, Try.ntmps8
  go_wp2_with (with_reducible refine HC1.out.mono ?_)
  rintro e w1 ⟨n1, r1, rfl, hk1, hb1⟩
  have HB1 := Lib.hid (HB.out.trans (hb1.mono HB.out.size))
  have HX1 := Lib.hid (HX.out.below hb1)
  clear e0 e1 e2 e3 e4 e5 e6 e7 e8 e9 e10 hb1 HC1
  obtain ⟨e0, e1, e2, e3, e4, e5, e6, e7, e8, e9, e10⟩ := eleven HX1.out
  go_wp2_with (with_reducible refine (HC2.out _ HB1.out).mono ?_)
  rintro e w2 ⟨n2, r2, rfl, hk2, hb2⟩
  obtain ⟨rfl, rfl⟩ := hk1.one hk2
  have HB2 := Lib.hid (HB1.out.trans (hb2.mono HB1.out.size))
  have hxb := HX1.out.below hb2
  clear e0 e1 e2 e3 e4 e5 e6 e7 e8 e9 e10 hb2 HC2 hk1 hk2
  go_upto_region 3 with fail
  generalize w2 = W at *
  have HXW := Lib.hid hxb
  have hS0 : Below W.heap.size W W.drew := below_drew (Below.refl _ _)
  have hlo := HB2.out.size
  refine wp_region_held_drew (S := (fun u => Below W.heap.size W u)) (by kernel_rfl) hS0 (fun _ => ?_)
  change wpAnyH _ _ _ _ _ 18 #[false, false, false, false, false, false, false, false, false, false, false, false, false, false, false, false, false, false] _ (World.drew _)
  refine wpAnyH_take (i := 0) (v := .int .i64 n1) rfl (by kernel_rfl) (by kernel_rfl) (by kernel_rfl) (fun _ _ _ h => h) (Or.inl ⟨by rfl, fun u hu => by (go_simp)⟩) hS0 ?_
  simp only [List.getElem_toArray, List.getElem_cons_succ, List.getElem_cons_zero, Act.put, List.setIfInBounds_toArray, List.set_cons_zero, List.set_cons_succ]
  refine wpAnyH_take (i := 1) (v := .int .i64 n1) rfl (by kernel_rfl) (by kernel_rfl) (by kernel_rfl) (fun _ _ _ h => h) (Or.inl ⟨by rfl, fun u hu => by (go_simp)⟩) hS0 ?_
  simp only [List.getElem_toArray, List.getElem_cons_succ, List.getElem_cons_zero, Act.put, List.setIfInBounds_toArray, List.set_cons_zero, List.set_cons_succ]
  refine wpAnyH_take (i := 2) (v := .bool true) rfl (by kernel_rfl) (by kernel_rfl) (by kernel_rfl) (fun _ _ _ h => h) (Or.inl ⟨by rfl, fun u hu => by (go_simp)⟩) hS0 ?_
  simp only [List.getElem_toArray, List.getElem_cons_succ, List.getElem_cons_zero, Act.put, List.setIfInBounds_toArray, List.set_cons_zero, List.set_cons_succ]
  refine wpAnyH_take (i := 3) (v := .bool true) rfl (by kernel_rfl) (by kernel_rfl) (by kernel_rfl) (fun _ _ _ h => h) (Or.inl ⟨by rfl, fun u hu => by (go_simp)⟩) hS0 ?_
  simp only [List.getElem_toArray, List.getElem_cons_succ, List.getElem_cons_zero, Act.put, List.setIfInBounds_toArray, List.set_cons_zero, List.set_cons_succ]
  refine wpAnyH_take (i := 4) (v := .int .i64 r1) rfl (by kernel_rfl) (by kernel_rfl) (by kernel_rfl) (fun _ _ _ h => h) (Or.inl ⟨by rfl, fun u hu => by (go_simp)⟩) hS0 ?_
  simp only [List.getElem_toArray, List.getElem_cons_succ, List.getElem_cons_zero, Act.put, List.setIfInBounds_toArray, List.set_cons_zero, List.set_cons_succ]
  refine wpAnyH_take (i := 5) (v := .int .i64 r1) rfl (by kernel_rfl) (by kernel_rfl) (by kernel_rfl) (fun _ _ _ h => h) (Or.inl ⟨by rfl, fun u hu => by (go_simp)⟩) hS0 ?_
  simp only [List.getElem_toArray, List.getElem_cons_succ, List.getElem_cons_zero, Act.put, List.setIfInBounds_toArray, List.set_cons_zero, List.set_cons_succ]
  refine wpAnyH_take (i := 6) (v := .bool true) rfl (by kernel_rfl) (by kernel_rfl) (by kernel_rfl) (fun _ _ _ h => h) (Or.inl ⟨by rfl, fun u hu => by (go_simp)⟩) hS0 ?_
  simp only [List.getElem_toArray, List.getElem_cons_succ, List.getElem_cons_zero, Act.put, List.setIfInBounds_toArray, List.set_cons_zero, List.set_cons_succ]
  refine wpAnyH_take (i := 7) (v := .bool true) rfl (by kernel_rfl) (by kernel_rfl) (by kernel_rfl) (fun _ _ _ h => h) (Or.inl ⟨by rfl, fun u hu => by (go_simp)⟩) hS0 ?_
  simp only [List.getElem_toArray, List.getElem_cons_succ, List.getElem_cons_zero, Act.put, List.setIfInBounds_toArray, List.set_cons_zero, List.set_cons_succ]
  refine wpAnyH_take (i := 8) (v := .bool true) rfl (by kernel_rfl) (by kernel_rfl) (by kernel_rfl) (fun _ _ _ h => h) (Or.inl ⟨by rfl, fun u hu => by (go_simp)⟩) hS0 ?_
  simp only [List.getElem_toArray, List.getElem_cons_succ, List.getElem_cons_zero, Act.put, List.setIfInBounds_toArray, List.set_cons_zero, List.set_cons_succ]
  refine wpAnyH_take (i := 9) (v := .agg #[.int .i64 c.wo, .int .i64 c.le, .int .i64 c.cl, .int .i64 c.ta, .int .i64 c.de, .int .i64 c.he, .int .i64 c.ba, .int .i64 c.ag, .int .i64 c.pa, .slice pa pn pc, .slice sa sn sc]) rfl (by kernel_rfl) (by kernel_rfl) (by kernel_rfl) (fun _ _ _ h => h) (Or.inl ⟨by rfl, fun u hu => by (obtain ⟨z0, z1, z2, z3, z4, z5, z6, z7, z8, z9, z10⟩ := eleven (HXW.out.below hu); go_simp)⟩) hS0 ?_
  simp only [List.getElem_toArray, List.getElem_cons_succ, List.getElem_cons_zero, Act.put, List.setIfInBounds_toArray, List.set_cons_zero, List.set_cons_succ]
  refine wpAnyH_take (i := 10) (v := .slice la L lc) rfl (by kernel_rfl) (by kernel_rfl) (by kernel_rfl) (fun _ _ _ h => h) (Or.inl ⟨by rfl, fun u hu => by (go_simp)⟩) hS0 ?_
  simp only [List.getElem_toArray, List.getElem_cons_succ, List.getElem_cons_zero, Act.put, List.setIfInBounds_toArray, List.set_cons_zero, List.set_cons_succ]
  refine wpAnyH_take (i := 12) (v := .agg #[.int .i64 c.wo, .int .i64 c.le, .int .i64 c.cl, .int .i64 c.ta, .int .i64 c.de, .int .i64 c.he, .int .i64 c.ba, .int .i64 c.ag, .int .i64 c.pa, .slice pa pn pc, .slice sa sn sc]) rfl (by kernel_rfl) (by kernel_rfl) (by kernel_rfl) (fun _ _ _ h => h) (Or.inl ⟨by rfl, fun u hu => by (obtain ⟨z0, z1, z2, z3, z4, z5, z6, z7, z8, z9, z10⟩ := eleven (HXW.out.below hu); go_simp)⟩) hS0 ?_
  simp only [List.getElem_toArray, List.getElem_cons_succ, List.getElem_cons_zero, Act.put, List.setIfInBounds_toArray, List.set_cons_zero, List.set_cons_succ]
  refine wpAnyH_take (i := 13) (v := .slice la L lc) rfl (by kernel_rfl) (by kernel_rfl) (by kernel_rfl) (fun _ _ _ h => h) (Or.inl ⟨by rfl, fun u hu => by (go_simp)⟩) hS0 ?_
  simp only [List.getElem_toArray, List.getElem_cons_succ, List.getElem_cons_zero, Act.put, List.setIfInBounds_toArray, List.set_cons_zero, List.set_cons_succ]
  refine wpAnyH_ready (rs := [11]) (by kernel_rfl) (by simp) ?_
  refine AllReadyH.cons rfl (fun K hK => ?_) AllReadyH.nil
  · go_simp
    go_at_call 14
    (with_reducible refine (HL1.out _ (HB2.out.trans (hS0.mono hlo))).mono ?_)
    rintro e w3 ⟨u1, l1, rfl, hu1, hf1, hb3⟩
    have hS3 : Below W.heap.size W w3 := hS0.trans (hb3.mono hS0.size)
    refine hK.out _ _ hS3 (fun _ => ?_)
    clear hK K
    simp only [List.setIfInBounds_toArray, List.set_cons_zero, List.set_cons_succ]
    refine wpAnyH_ready (rs := [14]) (by kernel_rfl) (by simp) ?_
    refine AllReadyH.cons rfl (fun K hK => ?_) AllReadyH.nil
    go_simp
    go_at_call 17
    (with_reducible refine (HL2.out _ (HB2.out.trans (hS3.mono hlo))).mono ?_)
    rintro e w4 ⟨u2, l2, rfl, hu2, hf2, hb4⟩
    have hS4 : Below W.heap.size W w4 := hS3.trans (hb4.mono hS3.size)
    have hu1' := OwnI.below hu1 hb4
    refine hK.out _ _ hS4 (fun _ => ?_)
    clear hK K
    simp only [List.setIfInBounds_toArray, List.set_cons_zero, List.set_cons_succ]
    obtain rfl := hf1.one hf2
    obtain ⟨a1, c1, e1, hi1⟩ := own_ints hu1'
    obtain ⟨a2, c2, e2, hi2⟩ := own_ints hu2
    subst e1
    subst e2
    refine wpAnyH_ready (rs := [15]) (by kernel_rfl) (by simp) ?_
    refine AllReadyH.cons rfl (fun K hK => ?_) AllReadyH.nil
    go_simp
    go_at_call 15
    (with_reducible refine (keepints_any hi1 hi2 c1 c2).mono ?_)
    rintro e w5 ⟨rfl, nd, rfl⟩
    rw [decide_eq_true rfl]
    have hS5 : Below W.heap.size W (w4.drewN nd) := hS4.trans ((below_drewN w4 nd).mono hS4.size)
    refine hK.out _ _ hS5 (fun _ => ?_)
    clear hK K
    simp only [List.setIfInBounds_toArray, List.set_cons_zero, List.set_cons_succ]
    refine wpAnyH_take (i := 16) (v := .bool true) rfl (by kernel_rfl) (by kernel_rfl) (by kernel_rfl) (fun _ _ _ h => h) (Or.inl ⟨by rfl, fun u hu => by (go_simp)⟩) hS5 ?_
    simp only [List.getElem_toArray, List.getElem_cons_succ, List.getElem_cons_zero, Act.put, List.setIfInBounds_toArray, List.set_cons_zero, List.set_cons_succ]
    refine wpAnyH_ready (rs := [17]) (by kernel_rfl) (by simp) ?_
    refine AllReadyH.cons rfl (fun K hK => ?_) AllReadyH.nil
    go_simp
    refine hK.out _ _ hS5 (fun _ => ?_)
    clear hK K
    simp only [List.setIfInBounds_toArray, List.set_cons_zero, List.set_cons_succ]
    refine wpAnyH_done (by kernel_rfl) ?_ _
    go_wp2
    go_ret
    exact ⟨rfl, HB2.out.trans (hS5.mono hlo)⟩
end Go.Proofs.Ytpmdmeolehabjaa
