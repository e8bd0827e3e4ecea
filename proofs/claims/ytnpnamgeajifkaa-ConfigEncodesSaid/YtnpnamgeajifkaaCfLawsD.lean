/-
  The walk of the statement ConfigEncodes. (Written by wip/gen_cflawd.py.)
-/
import Derived.Test.YtnpnamgeajifkaaCfChg
import Derived.Test.YtnpnamgeajifkaaCfAwake
import Derived.Test.YtnpnamgeajifkaaCfEncP
import Derived.Test.YtnpnamgeajifkaaCfLawsA
import Derived.Deep.RegionHeld
import Derived.Laws.BytesArg
namespace Go.Proofs.Ytnpnamgeajifkaa
open Go Go.RowKit
set_option linter.unusedSimpArgs false

theorem OwnB.str {w : World} {base : Nat} {v : Value} {bs : List Int} (h : OwnB w base v bs) :
    ∃ a c, v = .slice a bs.length c ∧ ∀ w', Below w.heap.size w w' → (convert 26 9 (.slice a bs.length c)).run Try.prog w' = .ok (.string (strOfNums bs)) w' := by
  rcases h.2 with ⟨rfl, h2⟩ | ⟨g, cap, cur, rfl, h2, hg, hn, hc, _, _⟩
  · have : bs = [] := List.eq_nil_of_length_eq_zero h2
    subst this
    exact ⟨none, 0, rfl, fun w' _ => run_convert_bytes_nil w' 26 5 Try.underlying26 Try.underlying5 0 0 9 Try.underlying9⟩
  · refine ⟨_, cap, rfl, fun w' hb => run_convert_bytes_arg w' 26 5 Try.underlying26 Try.underlying5 g 0 bs.length cap bs rfl (fun i hi => ?_) 9 Try.underlying9⟩
    rw [hb.cell (p := ⟨g, 0 + i, none⟩) (Array.getElem?_eq_some_iff.1 hg).1]
    have := World.ownsRow.cells h rfl i (.int .u8 (bs.getD i 0)) (by simp [hi])
    have e : (⟨g, 0, none⟩ : Addr).add i = ⟨g, 0 + i, none⟩ := by unfold Addr.add; split <;> simp_all
    rwa [e] at this
/-- What the loop keeps. -/
def Enc3 (w : World) (i : Value) (wr : World) : Prop := (i = .int .i64 0 ∨ i = .int .i64 1 ∨ i = .int .i64 2 ∨ i = .int .i64 3) ∧ Below w.heap.size w wr

set_option maxRecDepth 20000 in
set_option maxHeartbeats 16000000 in
theorem encodes_law (c : Cfg) (pa : Option Addr) (pn pc : Nat) (sa : Option Addr) (sn sc : Nat) (a : Option Addr) (L c' : Nat) (zs : List Int) (which byv : Int) (w : World) (hl : Lists w 0 c pa pn sa sn) (h : InB w w.heap.size a L zs) :
    Calls Try.prog 5 #[cv c pa pn pc sa sn sc, .slice a L c', .int .i64 which, .int .i64 byv] w fun e w' => e = .returned (.bool true) ∧ Below w.heap.size w w' := by
  have hmax := h.2.1
  unfold maxLen at hmax
  have B0 := below_one w (.cells (cc c pa pn pc sa sn sc) 25)
  have H1 := Lib.hid (hl.alloc (.cells (cc c pa pn pc sa sn sc) 25))
  have X1 := Lib.hid (Blk.made w 25 (cc c pa pn pc sa sn sc))
  have I1 := Lib.hid (h.up B0)
  have B1 := Lib.hid B0
  obtain ⟨e0, e1, e2, e3, e4, e5, e6, e7, e8, e9, e10⟩ := eleven X1.out
  clear B0 h hl
  obtain ⟨lb, hlb⟩ : ∃ b, lightB c = b := ⟨_, rfl⟩
  obtain ⟨sb, hsb⟩ : ∃ b, decide ((L : Int) ≤ 400) = b := ⟨_, rfl⟩
  have HLB := Lib.hid hlb
  have HSB := Lib.hid hsb
  clear hlb hsb
  go_enter Try.func5, Try.ntmps5
  go_wp2_with fail
  generalize w.alloc (.cells (cc c pa pn pc sa sn sc) 25) = W1 at *
  (with_reducible refine (light_any H1.out _ _).mono ?_)
  rintro e W2 ⟨rfl, hb⟩
  rw [HLB.out]
  have H2 := Lib.hid (H1.out.below hb)
  have X2 := Lib.hid (X1.out.below hb)
  have I2 := Lib.hid (I1.out.up hb)
  have B2 := Lib.hid (B1.out.trans (hb.mono B1.out.size))
  clear hb H1 X1 I1 B1 e0 e1 e2 e3 e4 e5 e6 e7 e8 e9 e10
  cases lb with
  | false =>
    go_wp2
    go_ret
    exact ⟨rfl, B2.out⟩
  | true =>
  go_wp2_with fail
  (with_reducible refine (short_nil _ _ _).mono ?_)
  rintro e w0 ⟨rfl, rfl⟩
  rw [HSB.out]
  cases sb with
  | false =>
    go_wp2
    go_ret
    exact ⟨rfl, B2.out⟩
  | true =>
  go_wp2_with fail
  have H3 := Lib.hid H2.out.drew
  have X3 := Lib.hid (X2.out.below (below_drew (Below.refl _ _)))
  have I3 := Lib.hid (show InB W2.drew W2.drew.heap.size a L zs from I2.out)
  have B3 := Lib.hid (below_drew B2.out)
  clear H2 X2 B2 I2
  refine wp_region_held_drew (S := (OneE w.heap.size c pa pn pc sa sn sc)) (by kernel_rfl) (eleven X3.out) (fun _ => ?_)
  change wpAnyH _ _ _ _ _ 11 #[false, false, false, false, false, false, false, false, false, false, false] _ (World.drew _)
  refine wpAnyH_take (i := 0) (v := cv c pa pn pc sa sn sc) rfl (by kernel_rfl) (by kernel_rfl) (by kernel_rfl) (fun _ _ _ h => h) (Or.inl ⟨by rfl, fun u hu => by (obtain ⟨e0, e1, e2, e3, e4, e5, e6, e7, e8, e9, e10⟩ := hu; go_simp)⟩) (eleven X3.out) ?_
  simp only [List.getElem_toArray, List.getElem_cons_succ, List.getElem_cons_zero, Act.put, List.setIfInBounds_toArray, List.set_cons_zero, List.set_cons_succ]
  refine wpAnyH_take (i := 1) (v := .slice a L c') rfl (by kernel_rfl) (by kernel_rfl) (by kernel_rfl) (fun _ _ _ h => h) (Or.inl ⟨by rfl, fun u hu => by (go_simp)⟩) (eleven X3.out) ?_
  simp only [List.getElem_toArray, List.getElem_cons_succ, List.getElem_cons_zero, Act.put, List.setIfInBounds_toArray, List.set_cons_zero, List.set_cons_succ]
  refine wpAnyH_take (i := 3) (v := .slice a L c') rfl (by kernel_rfl) (by kernel_rfl) (by kernel_rfl) (fun _ _ _ h => h) (Or.inl ⟨by rfl, fun u hu => by (go_simp)⟩) (eleven X3.out) ?_
  simp only [List.getElem_toArray, List.getElem_cons_succ, List.getElem_cons_zero, Act.put, List.setIfInBounds_toArray, List.set_cons_zero, List.set_cons_succ]
  refine wpAnyH_take (i := 5) (v := .int .i64 which) rfl (by kernel_rfl) (by kernel_rfl) (by kernel_rfl) (fun _ _ _ h => h) (Or.inl ⟨by rfl, fun u hu => by (go_simp)⟩) (eleven X3.out) ?_
  simp only [List.getElem_toArray, List.getElem_cons_succ, List.getElem_cons_zero, Act.put, List.setIfInBounds_toArray, List.set_cons_zero, List.set_cons_succ]
  refine wpAnyH_take (i := 6) (v := .int .i64 byv) rfl (by kernel_rfl) (by kernel_rfl) (by kernel_rfl) (fun _ _ _ h => h) (Or.inl ⟨by rfl, fun u hu => by (go_simp)⟩) (eleven X3.out) ?_
  simp only [List.getElem_toArray, List.getElem_cons_succ, List.getElem_cons_zero, Act.put, List.setIfInBounds_toArray, List.set_cons_zero, List.set_cons_succ]
  refine wpAnyH_take (i := 7) (v := .int .i64 (byv.tmod 30)) rfl (by kernel_rfl) (by kernel_rfl) (by kernel_rfl) (fun _ _ _ h => h) (Or.inl ⟨by rfl, fun u hu => by (go_simp)⟩) (eleven X3.out) ?_
  simp only [List.getElem_toArray, List.getElem_cons_succ, List.getElem_cons_zero, Act.put, List.setIfInBounds_toArray, List.set_cons_zero, List.set_cons_succ]
  refine wpAnyH_ready (rs := [2]) (by kernel_rfl) (by simp) ?_
  refine AllReadyH.cons rfl (fun K hK => ?_) AllReadyH.nil
  go_simp
  go_at_call 11
  (with_reducible refine (rdecode_any I3.out _).mono ?_)
  rintro e w4 ⟨v4, rfl, hcfg, b4⟩
  obtain ⟨qa, qn, qc, ua, un, uc, rfl, hl⟩ := hcfg.isCfg
  generalize decC (strm zs) = d at *
  have D4 := Lib.hid hl
  have H4 := Lib.hid (H3.out.below b4)
  have X4 := Lib.hid (X3.out.below b4)
  have I4 := Lib.hid (I3.out.up b4)
  have B4 := Lib.hid (B3.out.trans (b4.mono B3.out.size))
  clear hl hcfg b4 H3 X3 I3 B3
  refine hK.out _ _ (eleven X4.out) (fun _ => ?_)
  clear hK K
  simp only [List.setIfInBounds_toArray, List.set_cons_zero, List.set_cons_succ]
  refine wpAnyH_ready (rs := [4]) (by kernel_rfl) (by simp) ?_
  refine AllReadyH.cons rfl (fun K hK => ?_) AllReadyH.nil
  go_simp
  go_at_call 11
  (with_reducible refine (rdecode_any I4.out _).mono ?_)
  rintro e w5 ⟨v5, rfl, hcfg, b5⟩
  obtain ⟨qa2, qn2, qc2, ua2, un2, uc2, rfl, hl⟩ := hcfg.isCfg
  have E5 := Lib.hid hl
  have D5 := Lib.hid (D4.out.below b5)
  have H5 := Lib.hid (H4.out.below b5)
  have X5 := Lib.hid (X4.out.below b5)
  have B5 := Lib.hid (B4.out.trans (b5.mono B4.out.size))
  clear hl hcfg b5 H4 X4 I4 B4 D4
  refine hK.out _ _ (eleven X5.out) (fun _ => ?_)
  clear hK K
  simp only [List.setIfInBounds_toArray, List.set_cons_zero, List.set_cons_succ]
  refine wpAnyH_ready (rs := [8]) (by kernel_rfl) (by simp) ?_
  refine AllReadyH.cons rfl (fun K hK => ?_) AllReadyH.nil
  go_simp
  go_at_call 10
  (with_reducible refine (changed_any E5.out _ _ _ _).mono ?_)
  rintro e w6 ⟨v6, x, rfl, ⟨ra, rn, rc, ta, tn, tc, rfl, hl⟩, b6⟩
  have Q6 := Lib.hid hl
  have D6 := Lib.hid (D5.out.below b6)
  have H6 := Lib.hid (H5.out.below b6)
  have X6 := Lib.hid (X5.out.below b6)
  have B6 := Lib.hid (B5.out.trans (b6.mono B5.out.size))
  clear hl b6 H5 X5 B5 D5 E5
  refine hK.out _ _ (eleven X6.out) (fun _ => ?_)
  clear hK K
  simp only [List.setIfInBounds_toArray, List.set_cons_zero, List.set_cons_succ]
  refine wpAnyH_ready (rs := [9]) (by kernel_rfl) (by simp) ?_
  refine AllReadyH.cons rfl (fun K hK => ?_) AllReadyH.nil
  go_simp
  have hA := below_one w6 (.cells #[.int .i64 c.wo, .int .i64 c.le, .int .i64 c.cl, .int .i64 c.ta, .int .i64 c.de, .int .i64 c.he, .int .i64 c.ba, .int .i64 c.ag, .int .i64 c.pa, .slice pa pn pc, .slice sa sn sc, .int .i64 d.wo, .int .i64 d.le, .int .i64 d.cl, .int .i64 d.ta, .int .i64 d.de, .int .i64 d.he, .int .i64 d.ba, .int .i64 d.ag, .int .i64 d.pa, .slice qa qn qc, .slice ua un uc, .int .i64 x.wo, .int .i64 x.le, .int .i64 x.cl, .int .i64 x.ta, .int .i64 x.de, .int .i64 x.he, .int .i64 x.ba, .int .i64 x.ag, .int .i64 x.pa, .slice ra rn rc, .slice ta tn tc] 25)
  have T7 := Lib.hid (Blk.made w6 25 #[.int .i64 c.wo, .int .i64 c.le, .int .i64 c.cl, .int .i64 c.ta, .int .i64 c.de, .int .i64 c.he, .int .i64 c.ba, .int .i64 c.ag, .int .i64 c.pa, .slice pa pn pc, .slice sa sn sc, .int .i64 d.wo, .int .i64 d.le, .int .i64 d.cl, .int .i64 d.ta, .int .i64 d.de, .int .i64 d.he, .int .i64 d.ba, .int .i64 d.ag, .int .i64 d.pa, .slice qa qn qc, .slice ua un uc, .int .i64 x.wo, .int .i64 x.le, .int .i64 x.cl, .int .i64 x.ta, .int .i64 x.de, .int .i64 x.he, .int .i64 x.ba, .int .i64 x.ag, .int .i64 x.pa, .slice ra rn rc, .slice ta tn tc])
  have X7 := Lib.hid (X6.out.below hA)
  have H7 := Lib.hid (H6.out.below hA)
  have D7 := Lib.hid (D6.out.below hA)
  have Q7 := Lib.hid (Q6.out.below hA)
  have B7 := Lib.hid (B6.out.trans (hA.mono B6.out.size))
  clear hA H6 D6 Q6 B6 X6
  refine hK.out _ _ (eleven X7.out) (fun _ => ?_)
  clear hK K
  simp only [List.setIfInBounds_toArray, List.set_cons_zero, List.set_cons_succ]
  generalize w6.alloc (.cells #[.int .i64 c.wo, .int .i64 c.le, .int .i64 c.cl, .int .i64 c.ta, .int .i64 c.de, .int .i64 c.he, .int .i64 c.ba, .int .i64 c.ag, .int .i64 c.pa, .slice pa pn pc, .slice sa sn sc, .int .i64 d.wo, .int .i64 d.le, .int .i64 d.cl, .int .i64 d.ta, .int .i64 d.de, .int .i64 d.he, .int .i64 d.ba, .int .i64 d.ag, .int .i64 d.pa, .slice qa qn qc, .slice ua un uc, .int .i64 x.wo, .int .i64 x.le, .int .i64 x.cl, .int .i64 x.ta, .int .i64 x.de, .int .i64 x.he, .int .i64 x.ba, .int .i64 x.ag, .int .i64 x.pa, .slice ra rn rc, .slice ta tn tc] 25) = W7 at *
  refine wpAnyH_take (i := 10) (v := .slice (some ⟨w6.heap.size, 0, none⟩) 3 3) rfl (by kernel_rfl) (by kernel_rfl) (by kernel_rfl) (fun _ _ _ h => h) (Or.inl ⟨by rfl, fun u hu => by (go_simp)⟩) (eleven X7.out) ?_
  simp only [List.getElem_toArray, List.getElem_cons_succ, List.getElem_cons_zero, Act.put, List.setIfInBounds_toArray, List.set_cons_zero, List.set_cons_succ]
  refine wpAnyH_done (by kernel_rfl) ?_ _
  go_wp2_with fail
  generalize w6.heap.size = gl at *
  go_loopw [10] (fun i wr => Enc3 W7 i wr) (fun i _ => (3 - intOf i).toNat)
  case atStart => exact ⟨.inl rfl, Below.refl _ _⟩
  case round =>
    obtain ⟨hi, hbr⟩ := hrel
    have BR := Lib.hid hbr
    clear hbr
    rcases hi with rfl | rfl | rfl | rfl
    · have hT := T7.out.below BR.out
      have t0 := hT.at_ 0
      have t1 := hT.at_ 1
      have t2 := hT.at_ 2
      have t3 := hT.at_ 3
      have t4 := hT.at_ 4
      have t5 := hT.at_ 5
      have t6 := hT.at_ 6
      have t7 := hT.at_ 7
      have t8 := hT.at_ 8
      have t9 := hT.at_ 9
      have t10 := hT.at_ 10
      simp only [List.getElem?_toArray, List.getElem?_cons_zero, List.getElem?_cons_succ] at t0 t1 t2 t3 t4 t5 t6 t7 t8 t9 t10
      clear hT
      go_wp2_with fail
      (with_reducible refine (encode_any (H7.out.below BR.out) _ _).mono ?_)
      rintro e y1 ⟨v1, xs, er, rfl, ho, heo, b1⟩
      have O1 := Lib.hid ho
      have E1 := Lib.hid heo
      have C1 := Lib.hid (BR.out.trans (b1.mono BR.out.size))
      clear ho heo b1 t0 t1 t2 t3 t4 t5 t6 t7 t8 t9 t10
      have hT := T7.out.below C1.out
      have t0 := hT.at_ 0
      have t1 := hT.at_ 1
      have t2 := hT.at_ 2
      have t3 := hT.at_ 3
      have t4 := hT.at_ 4
      have t5 := hT.at_ 5
      have t6 := hT.at_ 6
      have t7 := hT.at_ 7
      have t8 := hT.at_ 8
      have t9 := hT.at_ 9
      have t10 := hT.at_ 10
      simp only [List.getElem?_toArray, List.getElem?_cons_zero, List.getElem?_cons_succ] at t0 t1 t2 t3 t4 t5 t6 t7 t8 t9 t10
      clear hT
      go_wp2_with fail
      (with_reducible refine (rencode_any (H7.out.below C1.out) _ _).mono ?_)
      rintro e y2 ⟨v2, xs', er', rfl, ho, heo, b2⟩
      obtain ⟨rfl, rfl⟩ := E1.out.same heo
      obtain ⟨a1, c1, rfl, f1⟩ := (O1.out.below b2).str
      obtain ⟨a2, c2, rfl, f2⟩ := ho.str
      have F1 := Lib.hid f1
      have F2 := Lib.hid f2
      have C2 := Lib.hid (C1.out.trans (b2.mono C1.out.size))
      clear ho heo b2 f1 f2 C1 O1 E1 t0 t1 t2 t3 t4 t5 t6 t7 t8 t9 t10
      go_wp2_with fail
      (with_reducible refine (awake_any _).mono ?_)
      rintro e y3 ⟨rfl, b3⟩
      have C3 := Lib.hid (C2.out.trans (b3.mono C2.out.size))
      have g1 := F1.out _ b3
      have g2 := F2.out _ b3
      clear b3 C2 F1 F2
      go_wp2_with fail
      go_roundw
      case rel => exact ⟨.inr (.inl rfl), C3.out⟩
      case measure => simp [intOf]
    · have hT := T7.out.below BR.out
      have t0 := hT.at_ 11
      have t1 := hT.at_ 12
      have t2 := hT.at_ 13
      have t3 := hT.at_ 14
      have t4 := hT.at_ 15
      have t5 := hT.at_ 16
      have t6 := hT.at_ 17
      have t7 := hT.at_ 18
      have t8 := hT.at_ 19
      have t9 := hT.at_ 20
      have t10 := hT.at_ 21
      simp only [List.getElem?_toArray, List.getElem?_cons_zero, List.getElem?_cons_succ] at t0 t1 t2 t3 t4 t5 t6 t7 t8 t9 t10
      clear hT
      go_wp2_with fail
      (with_reducible refine (encode_any (D7.out.below BR.out) _ _).mono ?_)
      rintro e y1 ⟨v1, xs, er, rfl, ho, heo, b1⟩
      have O1 := Lib.hid ho
      have E1 := Lib.hid heo
      have C1 := Lib.hid (BR.out.trans (b1.mono BR.out.size))
      clear ho heo b1 t0 t1 t2 t3 t4 t5 t6 t7 t8 t9 t10
      have hT := T7.out.below C1.out
      have t0 := hT.at_ 11
      have t1 := hT.at_ 12
      have t2 := hT.at_ 13
      have t3 := hT.at_ 14
      have t4 := hT.at_ 15
      have t5 := hT.at_ 16
      have t6 := hT.at_ 17
      have t7 := hT.at_ 18
      have t8 := hT.at_ 19
      have t9 := hT.at_ 20
      have t10 := hT.at_ 21
      simp only [List.getElem?_toArray, List.getElem?_cons_zero, List.getElem?_cons_succ] at t0 t1 t2 t3 t4 t5 t6 t7 t8 t9 t10
      clear hT
      go_wp2_with fail
      (with_reducible refine (rencode_any (D7.out.below C1.out) _ _).mono ?_)
      rintro e y2 ⟨v2, xs', er', rfl, ho, heo, b2⟩
      obtain ⟨rfl, rfl⟩ := E1.out.same heo
      obtain ⟨a1, c1, rfl, f1⟩ := (O1.out.below b2).str
      obtain ⟨a2, c2, rfl, f2⟩ := ho.str
      have F1 := Lib.hid f1
      have F2 := Lib.hid f2
      have C2 := Lib.hid (C1.out.trans (b2.mono C1.out.size))
      clear ho heo b2 f1 f2 C1 O1 E1 t0 t1 t2 t3 t4 t5 t6 t7 t8 t9 t10
      go_wp2_with fail
      (with_reducible refine (awake_any _).mono ?_)
      rintro e y3 ⟨rfl, b3⟩
      have C3 := Lib.hid (C2.out.trans (b3.mono C2.out.size))
      have g1 := F1.out _ b3
      have g2 := F2.out _ b3
      clear b3 C2 F1 F2
      go_wp2_with fail
      go_roundw
      case rel => exact ⟨.inr (.inr (.inl rfl)), C3.out⟩
      case measure => simp [intOf]
    · have hT := T7.out.below BR.out
      have t0 := hT.at_ 22
      have t1 := hT.at_ 23
      have t2 := hT.at_ 24
      have t3 := hT.at_ 25
      have t4 := hT.at_ 26
      have t5 := hT.at_ 27
      have t6 := hT.at_ 28
      have t7 := hT.at_ 29
      have t8 := hT.at_ 30
      have t9 := hT.at_ 31
      have t10 := hT.at_ 32
      simp only [List.getElem?_toArray, List.getElem?_cons_zero, List.getElem?_cons_succ] at t0 t1 t2 t3 t4 t5 t6 t7 t8 t9 t10
      clear hT
      go_wp2_with fail
      (with_reducible refine (encode_any (Q7.out.below BR.out) _ _).mono ?_)
      rintro e y1 ⟨v1, xs, er, rfl, ho, heo, b1⟩
      have O1 := Lib.hid ho
      have E1 := Lib.hid heo
      have C1 := Lib.hid (BR.out.trans (b1.mono BR.out.size))
      clear ho heo b1 t0 t1 t2 t3 t4 t5 t6 t7 t8 t9 t10
      have hT := T7.out.below C1.out
      have t0 := hT.at_ 22
      have t1 := hT.at_ 23
      have t2 := hT.at_ 24
      have t3 := hT.at_ 25
      have t4 := hT.at_ 26
      have t5 := hT.at_ 27
      have t6 := hT.at_ 28
      have t7 := hT.at_ 29
      have t8 := hT.at_ 30
      have t9 := hT.at_ 31
      have t10 := hT.at_ 32
      simp only [List.getElem?_toArray, List.getElem?_cons_zero, List.getElem?_cons_succ] at t0 t1 t2 t3 t4 t5 t6 t7 t8 t9 t10
      clear hT
      go_wp2_with fail
      (with_reducible refine (rencode_any (Q7.out.below C1.out) _ _).mono ?_)
      rintro e y2 ⟨v2, xs', er', rfl, ho, heo, b2⟩
      obtain ⟨rfl, rfl⟩ := E1.out.same heo
      obtain ⟨a1, c1, rfl, f1⟩ := (O1.out.below b2).str
      obtain ⟨a2, c2, rfl, f2⟩ := ho.str
      have F1 := Lib.hid f1
      have F2 := Lib.hid f2
      have C2 := Lib.hid (C1.out.trans (b2.mono C1.out.size))
      clear ho heo b2 f1 f2 C1 O1 E1 t0 t1 t2 t3 t4 t5 t6 t7 t8 t9 t10
      go_wp2_with fail
      (with_reducible refine (awake_any _).mono ?_)
      rintro e y3 ⟨rfl, b3⟩
      have C3 := Lib.hid (C2.out.trans (b3.mono C2.out.size))
      have g1 := F1.out _ b3
      have g2 := F2.out _ b3
      clear b3 C2 F1 F2
      go_wp2_with fail
      go_roundw
      case rel => exact ⟨.inr (.inr (.inr rfl)), C3.out⟩
      case measure => simp [intOf]
    · go_wp2
      go_ret
      exact ⟨rfl, B7.out.trans (BR.out.mono B7.out.size)⟩
end Go.Proofs.Ytnpnamgeajifkaa
