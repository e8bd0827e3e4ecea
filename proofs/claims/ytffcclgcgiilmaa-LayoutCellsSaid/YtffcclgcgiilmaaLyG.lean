/-
  The walk of the statement LayoutCells. (Written by wip/gen_lyg.py.)
-/
import Derived.Test.YtffcclgcgiilmaaLyD
import Derived.Test.YtffcclgcgiilmaaLyE
import Derived.Test.YtffcclgcgiilmaaCfChkC
namespace Go.Proofs.Ytffcclgcgiilmaa
open Go Go.RowKit
set_option linter.unusedSimpArgs false

theorem ints_lone (w : World) (z : Int) : InInts (w.alloc (.cells #[.int .i64 z] 3)) (some ⟨w.heap.size, 0, none⟩) 1 [z] := by
  have hB := Blk.made w 3 #[.int .i64 z]
  refine ⟨rfl, by unfold maxLen; omega, fun i hi => ⟨_, rfl, hB.lt, ?_⟩⟩
  obtain rfl : i = 0 := by omega
  have e : (⟨w.heap.size, 0, none⟩ : Addr).add 0 = ⟨w.heap.size, 0, none⟩ := by unfold Addr.add; rfl
  rw [e, hB.at_]
  rfl
theorem keepnum0 {w : World} {a : Option Addr} {L : Nat} {zs : List Int} (h : InInts w a L zs) (c : Nat) (n : Int) (hn : 1 ≤ n) (hn' : n ≤ 1000000) :
    Calls Try.prog 11 #[.slice a L c, .int .i64 0, .int .i64 n] w (NumR n w) := keepnum_any h c 0 (by omega) n hn hn'
/-- The argument's configuration c stands beside the other one, d, and its layout. -/
structure ArgS (w : World) (g h : Nat) (d : Cfg) (qa : Option Addr) (qn qc : Nat) (ua : Option Addr) (un uc : Nat) (c : Cfg) (pa : Option Addr) (pn pc : Nat) (sa : Option Addr) (sn sc : Nat) (u : World) : Prop where
  s : LawS w g h d qa qn qc ua un uc u
  y : Blk u w.heap.size 26 (cc c pa pn pc sa sn sc)
  i : Lists u 0 c pa pn sa sn
section
variable {w : World} {g h : Nat} {d c : Cfg} {qa ua pa sa : Option Addr} {qn qc un uc pn pc sn sc : Nat}
theorem ArgS.below {u u' : World} (s : ArgS w g h d qa qn qc ua un uc c pa pn pc sa sn sc u) (b : Below u.heap.size u u') : ArgS w g h d qa qn qc ua un uc c pa pn pc sa sn sc u' := ⟨s.s.below b, s.y.below b, s.i.below b⟩
theorem ArgS.drew {u : World} (s : ArgS w g h d qa qn qc ua un uc c pa pn pc sa sn sc u) : ArgS w g h d qa qn qc ua un uc c pa pn pc sa sn sc u.drew := s.below (below_drew (Below.refl _ _))
theorem ArgS.drewN {u : World} (s : ArgS w g h d qa qn qc ua un uc c pa pn pc sa sn sc u) (n : Nat) : ArgS w g h d qa qn qc ua un uc c pa pn pc sa sn sc (u.drewN n) := ⟨⟨s.s.x, s.s.l, ⟨s.s.b.os, s.s.b.tape, s.s.b.output, s.s.b.size, s.s.b.block⟩⟩, s.y, s.i.below ⟨rfl, rfl, rfl, Nat.le_refl _, fun _ _ => rfl⟩⟩
end
/-- What the loop keeps. -/
def CelR (w : World) (g h : Nat) (d : Cfg) (qa : Option Addr) (qn qc : Nat) (ua : Option Addr) (un uc : Nat) (c : Cfg) (pa : Option Addr) (pn pc : Nat) (sa : Option Addr) (sn sc : Nat) (i : Value) (u : World) : Prop :=
  ∃ x : Int, -1 ≤ x ∧ x ≤ 14 ∧ i = .int .i64 x ∧ ArgS w g h d qa qn qc ua un uc c pa pn pc sa sn sc u

set_option maxRecDepth 20000 in
set_option maxHeartbeats 16000000 in
theorem cells_law (a : Option Addr) (L c' : Nat) (zs : List Int) (c : Cfg) (pa : Option Addr) (pn pc : Nat) (sa : Option Addr) (sn sc : Nat) (i k : Int) (w : World) (h : InB w w.heap.size a L zs) (hI : Lists w 0 c pa pn sa sn) :
    Calls Try.prog 3 #[.slice a L c', cv c pa pn pc sa sn sc, .int .i64 i, .int .i64 k] w fun e w' => e = .returned (.bool true) ∧ Below w.heap.size w w' := by
  have B0 := Lib.hid (below_one w (cbox c pa pn pc sa sn sc))
  have Y0 := Lib.hid (Blk.made w 26 (cc c pa pn pc sa sn sc))
  have I0 := Lib.hid (hI.below B0.out)
  have J0 := Lib.hid (h.up B0.out)
  obtain ⟨e0, e1, e2, e3, e4, e5, e6, e7, e8, e9, e10⟩ := eleven Y0.out
  clear h hI
  obtain ⟨sb, hsb⟩ : ∃ b, decide ((L : Int) ≤ 400) = b := ⟨_, rfl⟩
  have HSB := Lib.hid hsb
  clear hsb
  have hcase : (pn : Int) > 50 ∨ (¬ (pn : Int) > 50 ∧ (sn : Int) > 100) ∨ (¬ (pn : Int) > 50 ∧ ¬ (sn : Int) > 100) := by omega
  cases sb with
  | false =>
    go_enter Try.func3, Try.ntmps3
    go_wp2_with fail
    (with_reducible refine (short_nil _ _ _).mono ?_)
    rintro e w0 ⟨rfl, rfl⟩
    rw [HSB.out]
    go_wp2
    go_ret
    exact ⟨rfl, B0.out⟩
  | true =>
  rcases hcase with hp | ⟨hp, hs⟩ | ⟨hp, hs⟩
  · go_enter Try.func3, Try.ntmps3
    go_wp2_with fail
    (with_reducible refine (short_nil _ _ _).mono ?_)
    rintro e w0 ⟨rfl, rfl⟩
    rw [HSB.out]
    go_wp2
    go_ret
    exact ⟨rfl, B0.out⟩
  · go_enter Try.func3, Try.ntmps3
    go_wp2_with fail
    (with_reducible refine (short_nil _ _ _).mono ?_)
    rintro e w0 ⟨rfl, rfl⟩
    rw [HSB.out]
    go_wp2
    go_ret
    exact ⟨rfl, B0.out⟩
  go_enter Try.func3, Try.ntmps3
  go_wp2_with fail
  (with_reducible refine (short_nil _ _ _).mono ?_)
  rintro e w0 ⟨rfl, rfl⟩
  rw [HSB.out]
  go_wp2_with fail
  generalize w.alloc (cbox c pa pn pc sa sn sc) = W0 at *
  clear e0 e1 e2 e3 e4 e5 e6 e7 e8 e9 e10 hp hs
  (with_reducible refine (config_any J0.out c').mono ?_)
  rintro e w1 ⟨v, rfl, hcfg, hb⟩
  obtain ⟨d, hcd⟩ : ∃ d, decC (strm zs) = d := ⟨_, rfl⟩
  rw [hcd] at hcfg
  have hck := chk_dec (strm zs)
  rw [hcd] at hck
  have HCK := Lib.hid hck
  have HIN := Lib.hid (cfgIn_chk hck)
  obtain ⟨qa, qn, qc, ua, un, uc, rfl, hl⟩ := hcfg.isCfg
  have hb1 := hb.alloc hb.size (.cells (cc d qa qn qc ua un uc) 26)
  have H1 := Lib.hid (hl.alloc (.cells (cc d qa qn qc ua un uc) 26))
  have X1 := Lib.hid (Blk.made w1 26 (cc d qa qn qc ua un uc))
  have B1 := Lib.hid (B0.out.trans (hb1.mono B0.out.size))
  have Y1 := Lib.hid (Y0.out.below hb1)
  have I1 := Lib.hid (I0.out.below hb1)
  clear hl hb hb1 hcd hck hcfg B0 Y0 I0 J0
  go_wp2_with fail
  generalize w1.alloc (.cells (cc d qa qn qc ua un uc) 26) = W at *
  generalize w1.heap.size = g at *
  (with_reducible refine (new_any H1.out _ _).mono ?_)
  rintro e w2 ⟨rfl, hb⟩
  rw [if_pos HCK.out, HCK.out]
  have X2 := Lib.hid (X1.out.below hb)
  have Y2 := Lib.hid (Y1.out.below hb)
  have I2 := Lib.hid (I1.out.below hb)
  have B2 := Lib.hid (B1.out.trans (hb.mono B1.out.size))
  clear hb H1 X1 B1 Y1 I1
  go_upto_region 5 with fail
  have A0 := Lib.hid (show ArgS w g w2.heap.size d qa qn qc ua un uc c pa pn pc sa sn sc (w2.alloc (.cells (lcells d) 30)) from ⟨⟨X2.out.alloc _, Blk.made w2 30 (lcells d), B2.out.alloc B2.out.size _⟩, Y2.out.alloc _, I2.out.alloc _⟩)
  generalize w2.alloc (.cells (lcells d) 30) = W2 at *
  generalize w2.heap.size = h at *
  clear X2 B2 Y2 I2
  go_wp2_with fail
  (with_reducible refine (awake_any _).mono ?_)
  rintro e w3 ⟨rfl, hb⟩
  have A1 := Lib.hid (A0.out.below hb)
  clear hb A0
  obtain ⟨e0, e1, e2, e3, e4, e5, e6, e7, e8, e9, e10⟩ := eleven A1.out.s.x
  obtain ⟨l0, l1, l2, l3, l4, l5, l6, l7, l8⟩ := (⟨A1.out.s.l.at_ 0, A1.out.s.l.at_ 1, A1.out.s.l.at_ 2, A1.out.s.l.at_ 3, A1.out.s.l.at_ 4, A1.out.s.l.at_ 5, A1.out.s.l.at_ 6, A1.out.s.l.at_ 7, A1.out.s.l.at_ 8⟩ : _ ∧ _ ∧ _ ∧ _ ∧ _ ∧ _ ∧ _ ∧ _ ∧ _)
  simp only [List.getElem?_toArray, List.getElem?_cons_zero, List.getElem?_cons_succ] at l0 l1 l2 l3 l4 l5 l6 l7 l8
  go_wp2_with fail
  (with_reducible refine (cells_any HIN.out _ _).mono ?_)
  rintro e w4 ⟨rfl, hb⟩
  have A2 := Lib.hid (A1.out.below hb)
  clear hb A1 e0 e1 e2 e3 e4 e5 e6 e7 e8 e9 e10 l0 l1 l2 l3 l4 l5 l6 l7 l8
  go_wp2_with fail
  go_loopw [12] (fun t wr => CelR w g h d qa qn qc ua un uc c pa pn pc sa sn sc t wr) (fun t _ => (14 - intOf t).toNat)
  case atStart => exact ⟨-1, by omega, by omega, rfl, A2.out⟩
  case round =>
    obtain ⟨x, x0, x1, rfl, hA⟩ := hrel
    have A3 := Lib.hid hA
    clear hA A2
    by_cases hx : x < 14
    · have m5 : -5 < x.tmod 5 ∧ x.tmod 5 < 5 := ⟨Int.lt_tmod_of_pos _ (by omega), Int.tmod_lt_of_pos _ (by omega)⟩
      have m4 : -4 < x.tmod 4 ∧ x.tmod 4 < 4 := ⟨Int.lt_tmod_of_pos _ (by omega), Int.tmod_lt_of_pos _ (by omega)⟩
      have HD := Lib.hid A3.out.drew
      go_wp2_with fail
      refine wp_region_held_drew (S := ArgS w g h d qa qn qc ua un uc c pa pn pc sa sn sc) (by kernel_rfl) HD.out (fun _ => ?_)
      change wpAnyH _ _ _ _ _ 19 #[false, false, false, false, false, false, false, false, false, false, false, false, false, false, false, false, false, false, false] _ (World.drew _)
      refine wpAnyH_take (i := 0) (v := .agg (cc d qa qn qc ua un uc)) rfl (by kernel_rfl) (by kernel_rfl) (by kernel_rfl) (fun _ _ _ h => h) (yields_row (by kernel_rfl) _ _ rfl g (by kernel_rfl) 26 _ (fun u hu => hu.s.x) _ Try.underlying26 rfl (by kernel_rfl)) HD.out ?_
      simp only [List.getElem_toArray, List.getElem_cons_succ, List.getElem_cons_zero, Act.put, List.setIfInBounds_toArray, List.set_cons_zero, List.set_cons_succ]
      refine wpAnyH_take (i := 1) (v := .agg (lcells d)) rfl (by kernel_rfl) (by kernel_rfl) (by kernel_rfl) (fun _ _ _ h => h) (yields_row (by kernel_rfl) _ _ rfl h (by kernel_rfl) 30 _ (fun u hu => hu.s.l) _ Try.underlying30 rfl (by kernel_rfl)) HD.out ?_
      simp only [List.getElem_toArray, List.getElem_cons_succ, List.getElem_cons_zero, Act.put, List.setIfInBounds_toArray, List.set_cons_zero, List.set_cons_succ]
      refine wpAnyH_take (i := 2) (v := .int .i64 x) rfl (by kernel_rfl) (by kernel_rfl) (by kernel_rfl) (fun _ _ _ h => h) (Or.inl ⟨by rfl, fun u hu => by (go_simp)⟩) HD.out ?_
      simp only [List.getElem_toArray, List.getElem_cons_succ, List.getElem_cons_zero, Act.put, List.setIfInBounds_toArray, List.set_cons_zero, List.set_cons_succ]
      refine wpAnyH_take (i := 3) (v := .int .i64 x) rfl (by kernel_rfl) (by kernel_rfl) (by kernel_rfl) (fun _ _ _ h => h) (Or.inl ⟨by rfl, fun u hu => by (go_simp)⟩) HD.out ?_
      simp only [List.getElem_toArray, List.getElem_cons_succ, List.getElem_cons_zero, Act.put, List.setIfInBounds_toArray, List.set_cons_zero, List.set_cons_succ]
      refine wpAnyH_take (i := 4) (v := .int .i64 (x.tmod 5)) rfl (by kernel_rfl) (by kernel_rfl) (by kernel_rfl) (fun _ _ _ h => h) (Or.inl ⟨by rfl, fun u hu => by (go_simp)⟩) HD.out ?_
      simp only [List.getElem_toArray, List.getElem_cons_succ, List.getElem_cons_zero, Act.put, List.setIfInBounds_toArray, List.set_cons_zero, List.set_cons_succ]
      refine wpAnyH_ready (rs := [5]) (by kernel_rfl) (by simp) ?_
      refine AllReadyH.cons rfl (fun K hK => ?_) AllReadyH.nil
      go_simp
      go_at_call 10
      (with_reducible refine (cells_any HIN.out _ _).mono ?_)
      rintro e w5 ⟨rfl, hb⟩
      have A5 := Lib.hid (HD.out.below hb)
      clear hb HD
      refine hK.out _ _ A5.out (fun _ => ?_)
      clear hK K
      simp only [List.setIfInBounds_toArray, List.set_cons_zero, List.set_cons_succ]
      refine wpAnyH_take (i := 6) (v := .bool false) rfl (by kernel_rfl) (by kernel_rfl) (by kernel_rfl) (fun _ _ _ h => h) (Or.inl ⟨by rfl, fun u hu => by (go_simp)⟩) A5.out ?_
      simp only [List.getElem_toArray, List.getElem_cons_succ, List.getElem_cons_zero, Act.put, List.setIfInBounds_toArray, List.set_cons_zero, List.set_cons_succ]
      refine wpAnyH_take (i := 7) (v := .bool false) rfl (by kernel_rfl) (by kernel_rfl) (by kernel_rfl) (fun _ _ _ h => h) (Or.inl ⟨by rfl, fun u hu => by (go_simp)⟩) A5.out ?_
      simp only [List.getElem_toArray, List.getElem_cons_succ, List.getElem_cons_zero, Act.put, List.setIfInBounds_toArray, List.set_cons_zero, List.set_cons_succ]
      refine wpAnyH_take (i := 8) (v := .agg (cc d qa qn qc ua un uc)) rfl (by kernel_rfl) (by kernel_rfl) (by kernel_rfl) (fun _ _ _ h => h) (yields_row (by kernel_rfl) _ _ rfl g (by kernel_rfl) 26 _ (fun u hu => hu.s.x) _ Try.underlying26 rfl (by kernel_rfl)) A5.out ?_
      simp only [List.getElem_toArray, List.getElem_cons_succ, List.getElem_cons_zero, Act.put, List.setIfInBounds_toArray, List.set_cons_zero, List.set_cons_succ]
      refine wpAnyH_take (i := 9) (v := .agg (lcells d)) rfl (by kernel_rfl) (by kernel_rfl) (by kernel_rfl) (fun _ _ _ h => h) (yields_row (by kernel_rfl) _ _ rfl h (by kernel_rfl) 30 _ (fun u hu => hu.s.l) _ Try.underlying30 rfl (by kernel_rfl)) A5.out ?_
      simp only [List.getElem_toArray, List.getElem_cons_succ, List.getElem_cons_zero, Act.put, List.setIfInBounds_toArray, List.set_cons_zero, List.set_cons_succ]
      refine wpAnyH_take (i := 10) (v := .int .i64 x) rfl (by kernel_rfl) (by kernel_rfl) (by kernel_rfl) (fun _ _ _ h => h) (Or.inl ⟨by rfl, fun u hu => by (go_simp)⟩) A5.out ?_
      simp only [List.getElem_toArray, List.getElem_cons_succ, List.getElem_cons_zero, Act.put, List.setIfInBounds_toArray, List.set_cons_zero, List.set_cons_succ]
      refine wpAnyH_take (i := 11) (v := .int .i64 (x.tmod 4)) rfl (by kernel_rfl) (by kernel_rfl) (by kernel_rfl) (fun _ _ _ h => h) (Or.inl ⟨by rfl, fun u hu => by (go_simp)⟩) A5.out ?_
      simp only [List.getElem_toArray, List.getElem_cons_succ, List.getElem_cons_zero, Act.put, List.setIfInBounds_toArray, List.set_cons_zero, List.set_cons_succ]
      refine wpAnyH_take (i := 12) (v := .int .i64 k) rfl (by kernel_rfl) (by kernel_rfl) (by kernel_rfl) (fun _ _ _ h => h) (Or.inl ⟨by rfl, fun u hu => by (go_simp)⟩) A5.out ?_
      simp only [List.getElem_toArray, List.getElem_cons_succ, List.getElem_cons_zero, Act.put, List.setIfInBounds_toArray, List.set_cons_zero, List.set_cons_succ]
      refine wpAnyH_ready (rs := [13]) (by kernel_rfl) (by simp) ?_
      refine AllReadyH.cons rfl (fun K hK => ?_) AllReadyH.nil
      go_simp
      have A6 := Lib.hid (A5.out.below (below_one w5 (.cells #[.int .i64 k] 3)))
      have HNUM := Lib.hid (keepnum0 (ints_lone w5 k) 1 6 (by omega) (by omega))
      clear A5
      refine hK.out _ _ A6.out (fun _ => ?_)
      clear hK K
      simp only [List.setIfInBounds_toArray, List.set_cons_zero, List.set_cons_succ]
      refine wpAnyH_ready (rs := [14]) (by kernel_rfl) (by simp) ?_
      refine AllReadyH.cons rfl (fun K hK => ?_) AllReadyH.nil
      go_simp
      go_at_call 11
      (with_reducible refine (HNUM.out).mono ?_)
      rintro e w7 ⟨y, hy, rfl, m, rfl⟩
      have A7 := Lib.hid (A6.out.drewN m)
      have hs1 : IntKind.i64.wrap ((y : Int) - 1) = (y : Int) - 1 := IntWalk.i64_in _ (by omega)
      clear A6 HNUM
      refine hK.out _ _ A7.out (fun _ => ?_)
      clear hK K
      simp only [List.setIfInBounds_toArray, List.set_cons_zero, List.set_cons_succ]
      refine wpAnyH_take (i := 15) (v := .int .i64 ((y : Int) - 1)) rfl (by kernel_rfl) (by kernel_rfl) (by kernel_rfl) (fun _ _ _ h => h) (Or.inl ⟨by rfl, fun u hu => by (go_simp)⟩) A7.out ?_
      simp only [List.getElem_toArray, List.getElem_cons_succ, List.getElem_cons_zero, Act.put, List.setIfInBounds_toArray, List.set_cons_zero, List.set_cons_succ]
      refine wpAnyH_ready (rs := [16]) (by kernel_rfl) (by simp) ?_
      refine AllReadyH.cons rfl (fun K hK => ?_) AllReadyH.nil
      go_simp
      go_at_call 10
      (with_reducible refine (cells_any HIN.out _ _).mono ?_)
      rintro e w8 ⟨rfl, hb⟩
      have A8 := Lib.hid (A7.out.below hb)
      clear hb A7
      refine hK.out _ _ A8.out (fun _ => ?_)
      clear hK K
      simp only [List.setIfInBounds_toArray, List.set_cons_zero, List.set_cons_succ]
      refine wpAnyH_take (i := 17) (v := .bool false) rfl (by kernel_rfl) (by kernel_rfl) (by kernel_rfl) (fun _ _ _ h => h) (Or.inl ⟨by rfl, fun u hu => by (go_simp)⟩) A8.out ?_
      simp only [List.getElem_toArray, List.getElem_cons_succ, List.getElem_cons_zero, Act.put, List.setIfInBounds_toArray, List.set_cons_zero, List.set_cons_succ]
      refine wpAnyH_take (i := 18) (v := .bool false) rfl (by kernel_rfl) (by kernel_rfl) (by kernel_rfl) (fun _ _ _ h => h) (Or.inl ⟨by rfl, fun u hu => by (go_simp)⟩) A8.out ?_
      simp only [List.getElem_toArray, List.getElem_cons_succ, List.getElem_cons_zero, Act.put, List.setIfInBounds_toArray, List.set_cons_zero, List.set_cons_succ]
      refine wpAnyH_done (by kernel_rfl) ?_ _
      go_wp2_with fail
      go_roundw
      case rel => exact ⟨x + 1, by omega, by omega, by go_num, A8.out⟩
      case measure => simp [intOf]; omega
    · obtain rfl : x = 14 := by omega
      obtain ⟨e0, e1, e2, e3, e4, e5, e6, e7, e8, e9, e10⟩ := eleven A3.out.y
      have b14 : ((14 : Int) < 14) = False := by simp
      go_wp2_with fail
      (with_reducible refine (new_any A3.out.i _ _).mono ?_)
      rintro e w5 ⟨rfl, hb⟩
      have A4 := Lib.hid (A3.out.below hb)
      clear hb A3 e0 e1 e2 e3 e4 e5 e6 e7 e8 e9 e10 b14 hx x0 x1
      obtain ⟨R, hR⟩ : ∃ R, chk c = R := ⟨_, rfl⟩
      by_cases hc : chk c = 0
      · rw [if_pos hc]
        rw [hc]
        have hin2 := Lib.hid (cfgIn_chk hc)
        have HC := Lib.hid hc
        clear hc hR
        go_upto_region 13 with fail
        have A5 := Lib.hid (A4.out.below (below_one w5 (.cells (lcells c) 30)))
        have M5 := Lib.hid (Blk.made w5 30 (lcells c))
        generalize w5.alloc (.cells (lcells c) 30) = W5 at *
        generalize w5.heap.size = m at *
        clear A4
        obtain ⟨e0, e1, e2, e3, e4, e5, e6, e7, e8, e9, e10⟩ := eleven A5.out.y
        go_wp2_with fail
        (with_reducible refine (rcheck_any A5.out.i _ _).mono ?_)
        rintro e w6 ⟨rfl, hb⟩
        rw [HC.out]
        have A6 := Lib.hid (A5.out.below hb)
        have M6 := Lib.hid (M5.out.below hb)
        clear hb A5 M5 e0 e1 e2 e3 e4 e5 e6 e7 e8 e9 e10
        obtain ⟨e0, e1, e2, e3, e4, e5, e6, e7, e8, e9, e10⟩ := eleven A6.out.y
        obtain ⟨l0, l1, l2, l3, l4, l5, l6, l7, l8⟩ := (⟨M6.out.at_ 0, M6.out.at_ 1, M6.out.at_ 2, M6.out.at_ 3, M6.out.at_ 4, M6.out.at_ 5, M6.out.at_ 6, M6.out.at_ 7, M6.out.at_ 8⟩ : _ ∧ _ ∧ _ ∧ _ ∧ _ ∧ _ ∧ _ ∧ _ ∧ _)
        simp only [List.getElem?_toArray, List.getElem?_cons_zero, List.getElem?_cons_succ] at l0 l1 l2 l3 l4 l5 l6 l7 l8
        go_wp2_with fail
        (with_reducible refine (cells_any hin2.out _ _).mono ?_)
        rintro e w7 ⟨rfl, hb⟩
        have A7 := Lib.hid (A6.out.below hb)
        clear hb A6 e0 e1 e2 e3 e4 e5 e6 e7 e8 e9 e10 l0 l1 l2 l3 l4 l5 l6 l7 l8
        go_wp2
        go_ret
        exact ⟨rfl, A7.out.s.b⟩
      · rw [if_neg hc]
        rw [hR] at hc ⊢
        have hne : (R == 0) = false := by simpa using hc
        have HR := Lib.hid hR
        clear hR
        go_upto_region 13 with fail
        have A5 := Lib.hid (A4.out.below (below_one w5 (.cells lz 30)))
        generalize w5.alloc (.cells lz 30) = W5 at *
        clear A4
        obtain ⟨e0, e1, e2, e3, e4, e5, e6, e7, e8, e9, e10⟩ := eleven A5.out.y
        go_wp2_with fail
        (with_reducible refine (rcheck_any A5.out.i _ _).mono ?_)
        rintro e w6 ⟨rfl, hb⟩
        rw [HR.out]
        have A6 := Lib.hid (A5.out.below hb)
        clear hb A5 e0 e1 e2 e3 e4 e5 e6 e7 e8 e9 e10
        go_wp2
        go_ret
        exact ⟨rfl, A6.out.s.b⟩
end Go.Proofs.Ytffcclgcgiilmaa
