/-
  The walk of the statement ScriptMore.
-/
import Derived.Test.YtpaacpcmijhcmaaScLawsE
namespace Go.Proofs.Ytpaacpcmijhcmaa
open Go Go.RowKit

/-- An append at a guarded operation that is carried out. -/
theorem wpList_appW {w : World} {ops : Array Oper} {rest : List Oper} {o : Oper} {a : Act} {Q : Exit → Act → World → Prop} (hw : Region.wanted o (yielded ops a.tmps) = true) (s x : Operand)
    (ho : o.op = .call { callee := .builtin .append, args := #[s, x], argTypes := #[25, 25] })
    {base : Nat} {v : Value} {es : List (Int × Int)} (hs : a.eval s = v) (hown : OwnE w base v es) {ad : Option Addr} {m c : Nat} {fs : List (Int × Int)} (hx : a.eval x = .slice ad m c) (hsrc : Ents w ad m fs) (hn : es.length + m ≤ 1000000) (hb : base ≤ w.heap.size)
    (h : ∀ v' w', OwnE w' base v' (es ++ fs) → w.grownBy w' v.ownBlock → wpList Try.prog ops Q rest (a.put o.dst v') w') :
    wpList Try.prog ops Q (o :: rest) a w := by
  refine wpList_step fun K hK => ?_
  rw [if_pos hw]
  obtain ⟨v', w', hr, h2, h3, _⟩ := run_app (c := c) hown hsrc hn hb o.type
  unfold Oper.wp execOp
  simp only [ho, resolve, invoke, builtin, Sem.run_bind, Sem.run_pure, Result.andThen_ok, List.map_toArray, List.map_cons, List.map_nil, hs, hx, hr]
  exact hK _ _ (h v' w' h2 h3)

theorem short_yes {w : World} {g : Nat} {a2 : Option Addr} {n2 c2 : Nat} (h : w.cell? ⟨g, 0, none⟩ = some (.slice a2 n2 c2)) (a : Option Addr) (n c : Nat) (h1 : (n : Int) ≤ 400) (h2 : (n2 : Int) ≤ 400) :
    Calls Try.prog 17 #[.slice a n c, .slice (some ⟨g, 0, none⟩) 1 1] w fun e w' => e = .returned (.bool true) ∧ w = w' := by
  have := short_any h a n c
  rwa [decide_eq_true h1, decide_eq_true h2] at this
theorem short_no {w : World} {g : Nat} {a2 : Option Addr} {n2 c2 : Nat} (h : w.cell? ⟨g, 0, none⟩ = some (.slice a2 n2 c2)) (a : Option Addr) (n c : Nat) (h1 : ¬ ((n : Int) ≤ 400 ∧ (n2 : Int) ≤ 400)) :
    Calls Try.prog 17 #[.slice a n c, .slice (some ⟨g, 0, none⟩) 1 1] w fun e w' => e = .returned (.bool false) ∧ w = w' := by
  have := short_any h a n c
  rwa [show (decide ((n : Int) ≤ 400) && decide ((n2 : Int) ≤ 400)) = false by simp; omega] at this

theorem more_inert {N at_ : Nat} (hN : 1 ≤ N) (es : List (Int × Int)) (k : Int) (h0 : k ≠ 0) (h1 : k ≠ 1) : rnds N [] (es.take at_ ++ [(k, 0)] ++ es.drop at_) = rnds N [] es := by
  have := rnds_inert (n := N) (e := (k, 0)) h0 h1 (by omega) (es.drop at_) (es.take at_) [] (compB_nil _)
  rw [List.take_append_drop] at this
  rw [List.append_assoc]
  exact this

/-- What the loop of ScriptMore keeps. -/
def MoreR (w : World) (L N R : Nat) (l i : Value) (wr : World) : Prop :=
  ∃ (k : Nat) (es : List (Int × Int)), k ≤ L ∧ k ≤ 10 ∧ i = .int .i64 k ∧ OwnE wr w.heap.size l es ∧ es.length ≤ 2000 + 100 * k ∧ rnds N [] es = R ∧ Below w.heap.size w wr

set_option maxHeartbeats 1600000 in
theorem more_law (a : Option Addr) (L c : Nat) (zs : List Int) (a1 : Option Addr) (L1 c1 : Nat) (ys : List Int) (n : Int) (a2 : Option Addr) (L2 c2 : Nat) (rs : List Int) (w : World)
    (h : InBytes w a L zs) (h1 : InBytes w a1 L1 ys) (h2 : InInts w a2 L2 rs) :
    Calls Try.prog 9 #[.slice a L c, .slice a1 L1 c1, .int .i64 n, .slice a2 L2 c2] w fun e w' => e = .returned (.bool true) ∧ Below w.heap.size w w' := by
  have hmax := h.2.1
  have hmax1 := h1.2.1
  have hmax2 := h2.2.1
  unfold maxLen at hmax hmax1 hmax2
  have H := Lib.hid h
  have H1 := Lib.hid h1
  have H2 := Lib.hid h2
  have hcell : (w.alloc (.cells #[.slice a2 L2 c2] 33)).cell? ⟨w.heap.size, 0, none⟩ = some (.slice a2 L2 c2) := (Blk.made w 33 #[.slice a2 L2 c2]).at_ 0
  have HCE := Lib.hid hcell
  have HB := Lib.hid (below_one w (.cells #[.slice a2 L2 c2] 33))
  clear h h1 h2 hcell
  by_cases hs : (L : Int) ≤ 400 ∧ (L2 : Int) ≤ 400
  · obtain ⟨hs1, hs2⟩ := hs
    by_cases hl : (400 : Int) < (L1 : Int)
    · go_enter Try.func9, Try.ntmps9
      go_wp2_with fail
      refine (short_yes HCE.out a L c hs1 hs2).mono ?_
      rintro e w' ⟨rfl, rfl⟩
      go_wp2
      go_ret
      exact ⟨rfl, HB.out⟩
    · go_enter Try.func9, Try.ntmps9
      go_wp2_with fail
      refine (short_yes HCE.out a L c hs1 hs2).mono ?_
      rintro e w' ⟨rfl, rfl⟩
      clear HCE
      go_wp2_with fail
      refine (number_one n (w.heap.size + 1) (by simp) 4 (by omega) (by omega)).mono ?_
      rintro e w2 ⟨y, hy, rfl, b2⟩
      have B2 := Lib.hid (HB.out.trans (b2.mono HB.out.size))
      clear b2 HB
      go_wp2_with fail
      refine (rdecode_any (H.out.below B2.out) _ (by omega)).mono ?_
      rintro e w3 ⟨v3, rfl, O3, b3⟩
      have B3 := Lib.hid (B2.out.trans (b3.mono B2.out.size))
      obtain ⟨a3, c3, rfl, E3, _⟩ := O3.ents
      have hlen3 : (decS zs).length ≤ 2000 := by
        have := H.out.1
        simp [decS]
        omega
      have HE3 := Lib.hid E3
      have HL3 := Lib.hid hlen3
      clear b3 B2 O3 E3 hlen3
      go_wp2_with fail
      refine (rdecode_any (H1.out.below B3.out) _ (by omega)).mono ?_
      rintro e w4 ⟨v4, rfl, O4, b4⟩
      have B4 := Lib.hid (B3.out.trans (b4.mono B3.out.size))
      have HE4 := Lib.hid (HE3.out.below b4)
      obtain ⟨a4, c4, rfl, E4, _⟩ := O4.ents
      have hlen4 : (decS ys).length ≤ 2000 := by
        have := H1.out.1
        simp [decS]
        omega
      have HF4 := Lib.hid E4
      have HL4 := Lib.hid hlen4
      clear b4 B3 O4 E4 hlen4 HE3 hl
      obtain ⟨R, hR⟩ : ∃ R, rnds ((y + 1 : Nat) : Int) [] (decS zs) = R := ⟨_, rfl⟩
      have HR := Lib.hid hR
      clear hR
      generalize decS zs = xs at *
      generalize decS ys = us at *
      go_wp2_with fail
      refine (rounds_at HE4.out _ (by have := HL3.out; omega) (1 + (y : Int)) (y + 1) (by omega) (by omega)).mono ?_
      rw [HR.out]
      rintro e w5 ⟨rfl, b5⟩
      have B5 := Lib.hid (B4.out.trans (b5.mono B4.out.size))
      have HE5 := Lib.hid (HE4.out.below b5)
      have HF5 := Lib.hid (HF4.out.below b5)
      clear b5 B4 HE4 HF4
      go_wp2_with fail
      refine (awake_any _).mono ?_
      rintro e w6 ⟨rfl, b6⟩
      have B6 := Lib.hid (B5.out.trans (b6.mono B5.out.size))
      have HE6 := Lib.hid (HE5.out.below b6)
      have HF6 := Lib.hid (HF5.out.below b6)
      clear b6 B5 HE5 HF5
      have O6 := OwnE.made w6 w6.heap.size (Nat.le_refl _)
      have E7 := HE6.out.alloc (.cells #[] 43)
      have hn7 : ([] : List (Int × Int)).length + xs.length ≤ 1000000 := by have := HL3.out; simp; omega
      have hs7 : w6.heap.size ≤ (w6.alloc (.cells #[] 43)).heap.size := by simp
      have HN8 := Lib.hid (show xs.length + us.length ≤ 1000000 by have := HL3.out; have := HL4.out; omega)
      go_wp2_with
        (first
          | (at_builtin
             refine wpList_appW (v := .slice (some ⟨w6.heap.size, 0, none⟩) 0 0) (by rfl) _ _ rfl rfl O6 rfl E7 hn7 hs7 ?_
             intro v8 w8 hown8 hg8
             rw [List.nil_append] at hown8
             have b8 := below_app (w0 := w6) (below_one w6 _) O6 hg8
             have E8 := HF6.out.below b8
             have hs8 := b8.size
             clear hg8 O6 E7 hn7 hs7)
          | (at_builtin
             refine wpList_appW (v := v8) (by rfl) _ _ rfl rfl hown8 rfl E8 HN8.out hs8 ?_
             intro v9 w9 hown9 hg9
             have b9 := below_app (w0 := w6) b8 hown8 hg9
             obtain ⟨a9, c9, rfl, E9, _⟩ := hown9.entsN (n := xs.length + us.length) (by rw [List.length_append])
             have HE9 := Lib.hid E9
             have hl9 : xs.length + us.length ≤ 4000 := by have := HL3.out; have := HL4.out; omega
             have HL9 := Lib.hid hl9
             have HE10 := Lib.hid (HE6.out.below b9)
             have B9 := Lib.hid (B6.out.trans (b9.mono B6.out.size))
             clear hown8 E8 hg9 b8 hown9 hs8 b9 E9 hl9))
      obtain ⟨S, hS⟩ : ∃ S, rnds ((y + 1 : Nat) : Int) [] (xs ++ us) = S := ⟨_, rfl⟩
      have hRS : (R : Int) ≤ (S : Int) := by
        have := rnds_more (n := ((y + 1 : Nat) : Int)) us xs []
        rw [HR.out, hS] at this
        omega
      have HS := Lib.hid hS
      clear hS
      refine (rounds_at HE9.out _ (by have := HL9.out; omega) (1 + (y : Int)) (y + 1) (by omega) (by omega)).mono ?_
      rw [HS.out]
      rintro e w11 ⟨rfl, b11⟩
      have B11 := Lib.hid (B9.out.trans (b11.mono B9.out.size))
      have HE11 := Lib.hid (HE10.out.below b11)
      clear b11 B9 HE9 HE10 HE6 HF6 B6
      have O11 := OwnE.made w11 w11.heap.size (Nat.le_refl _)
      have E12 := HE11.out.alloc (.cells #[] 43)
      have hn12 : ([] : List (Int × Int)).length + xs.length ≤ 1000000 := by have := HL3.out; simp; omega
      have hs12 : w11.heap.size ≤ (w11.alloc (.cells #[] 43)).heap.size := by simp
      go_wp2_with
        (at_builtin
         refine wpList_app (v := .slice (some ⟨w11.heap.size, 0, none⟩) 0 0) rfl _ _ rfl rfl O11 rfl E12 hn12 hs12 ?_
         intro v13 w13 hown13 hg13 _
         rw [List.nil_append] at hown13
         have b13 := below_app (w0 := w11) (below_one w11 _) O11 hg13
         have B13 := Lib.hid (B11.out.trans (b13.mono B11.out.size))
         have HO13 := Lib.hid (hown13.mono B11.out.size)
         clear hg13 O11 E12 hn12 hs12 b13 hown13 B11 HE11)
      go_loopw [12, 13] (fun l i wr => MoreR w L2 (y + 1) R l i wr) (fun _ i _ => (10 - intOf i).toNat)
      case atStart => exact ⟨0, xs, by omega, by omega, rfl, HO13.out, by have := HL3.out; omega, HR.out, B13.out⟩
      case round =>
        obtain ⟨k, es, hk, hk10, rfl, hown, hlen, hr, hb⟩ := hrel
        obtain ⟨al, cl, rfl, hE, hcl⟩ := hown.ents
        have HE := Lib.hid hE
        have HR2 := Lib.hid hr
        have HB2 := Lib.hid hb
        clear hown hE hb hr B13 HO13 hRS HS
        by_cases hgo : k < L2 ∧ k < 10
        · obtain ⟨hgo1, hgo2⟩ := hgo
          go_wp2_with fail
          refine (number_any (H2.out.below HB2.out) _ k (by omega) ((es.length : Int) + 1) (by omega) (by omega)).mono ?_
          rintro e w9 ⟨p, hp, rfl, m9, rfl⟩
          have B9 := Lib.hid (HB2.out.trans ((below_drewN wr m9).mono HB2.out.size))
          have HE9 := Lib.hid (HE.out.drewN m9)
          clear HB2 HE
          generalize wr.drewN m9 = w9 at *
          have hpl : p ≤ es.length := by omega
          have hpc : p ≤ cl := by omega
          have hkind : ∃ kd : Int, ((k : Int) % 2 = 0 ∧ kd = 3) ∨ ((k : Int) % 2 = 1 ∧ kd = 2) := by
            by_cases h2 : (k : Int) % 2 = 0
            · exact ⟨3, .inl ⟨h2, rfl⟩⟩
            · exact ⟨2, .inr ⟨by omega, rfl⟩⟩
          obtain ⟨kd, hkd⟩ := hkind
          have O9 := OwnE.made w9 w9.heap.size (Nat.le_refl _)
          have E9 := (HE9.out.alloc (.cells #[] 43)).front p hpl
          have hs9 : w9.heap.size ≤ (w9.alloc (.cells #[] 43)).heap.size := by simp
          have hn9 : ([] : List (Int × Int)).length + p ≤ 1000000 := by simp; omega
          have HLP := Lib.hid (show (es.take p).length = p by rw [List.length_take]; omega)
          have HI := Lib.hid (fun kd h0 h1 => more_inert (N := y + 1) (at_ := p) (by omega) es kd h0 h1)
          by_cases hca : cl = p
          · rcases hkd with ⟨hm2, rfl⟩ | ⟨hm2, rfl⟩
            · go_wp2_with
                (first
                  | (at_builtin
                     refine wpList_app (v := .slice (some ⟨w9.heap.size, 0, none⟩) 0 0) rfl _ _ rfl rfl O9 rfl E9 hn9 hs9 ?_
                     intro v10 w10 hown10 hg10 _
                     rw [List.nil_append] at hown10
                     have b10 := below_app (w0 := w9) (below_one w9 _) O9 hg10
                     have O10 := hown10.alloc (.cells #[.int .i64 3, .int .i64 0] 43)
                     have b10' := b10.alloc b10.size (.cells #[.int .i64 3, .int .i64 0] 43)
                     have E10 := ents_one w10 3 0
                     have hs10 := b10'.size
                     have hn10 : (es.take p).length + 1 ≤ 1000000 := by rw [HLP.out]; omega
                     clear hg10 hown10 b10 O9 E9 hs9 hn9)
                  | (at_builtin
                     refine wpList_app (v := v10) rfl _ _ rfl rfl O10 rfl E10 hn10 hs10 ?_
                     intro v11 w11 hown11 hg11 _
                     have b11 := below_app (w0 := w9) b10' O10 hg11
                     have E11 := (HE9.out.below b11).rest hcl p hpl
                     rw [if_pos hca] at E11
                     have hs11 := b11.size
                     have hn11 : (es.take p ++ [((3 : Int), (0 : Int))]).length + (es.length - p) ≤ 1000000 := by rw [List.length_append, HLP.out]; simp; omega
                     clear hg11 O10 E10 b10' hs10 hn10)
                  | (at_builtin
                     refine wpList_app (v := v11) rfl _ _ rfl rfl hown11 rfl E11 hn11 hs11 ?_
                     intro v12 w12 hown12 hg12 _
                     have b12 := below_app (w0 := w9) b11 hown11 hg12
                     have B12 := Lib.hid (B9.out.trans (b12.mono B9.out.size))
                     have HO12 := Lib.hid (hown12.mono B9.out.size)
                     clear hg12 hown11 E11 b11 hs11 hn11 b12 hown12))
              go_roundw
              case rel => exact ⟨k + 1, _, by omega, by omega, by go_num, HO12.out, by rw [length_inserted hpl]; omega, (HI.out 3 (by decide) (by decide)).trans HR2.out, B12.out⟩
              case measure => simp [intOf]; omega
            · go_wp2_with
                (first
                  | (at_builtin
                     refine wpList_app (v := .slice (some ⟨w9.heap.size, 0, none⟩) 0 0) rfl _ _ rfl rfl O9 rfl E9 hn9 hs9 ?_
                     intro v10 w10 hown10 hg10 _
                     rw [List.nil_append] at hown10
                     have b10 := below_app (w0 := w9) (below_one w9 _) O9 hg10
                     have O10 := hown10.alloc (.cells #[.int .i64 2, .int .i64 0] 43)
                     have b10' := b10.alloc b10.size (.cells #[.int .i64 2, .int .i64 0] 43)
                     have E10 := ents_one w10 2 0
                     have hs10 := b10'.size
                     have hn10 : (es.take p).length + 1 ≤ 1000000 := by rw [HLP.out]; omega
                     clear hg10 hown10 b10 O9 E9 hs9 hn9)
                  | (at_builtin
                     refine wpList_app (v := v10) rfl _ _ rfl rfl O10 rfl E10 hn10 hs10 ?_
                     intro v11 w11 hown11 hg11 _
                     have b11 := below_app (w0 := w9) b10' O10 hg11
                     have E11 := (HE9.out.below b11).rest hcl p hpl
                     rw [if_pos hca] at E11
                     have hs11 := b11.size
                     have hn11 : (es.take p ++ [((2 : Int), (0 : Int))]).length + (es.length - p) ≤ 1000000 := by rw [List.length_append, HLP.out]; simp; omega
                     clear hg11 O10 E10 b10' hs10 hn10)
                  | (at_builtin
                     refine wpList_app (v := v11) rfl _ _ rfl rfl hown11 rfl E11 hn11 hs11 ?_
                     intro v12 w12 hown12 hg12 _
                     have b12 := below_app (w0 := w9) b11 hown11 hg12
                     have B12 := Lib.hid (B9.out.trans (b12.mono B9.out.size))
                     have HO12 := Lib.hid (hown12.mono B9.out.size)
                     clear hg12 hown11 E11 b11 hs11 hn11 b12 hown12))
              go_roundw
              case rel => exact ⟨k + 1, _, by omega, by omega, by go_num, HO12.out, by rw [length_inserted hpl]; omega, (HI.out 2 (by decide) (by decide)).trans HR2.out, B12.out⟩
              case measure => simp [intOf]; omega
          · rcases hkd with ⟨hm2, rfl⟩ | ⟨hm2, rfl⟩
            · go_wp2_with
                (first
                  | (at_builtin
                     refine wpList_app (v := .slice (some ⟨w9.heap.size, 0, none⟩) 0 0) rfl _ _ rfl rfl O9 rfl E9 hn9 hs9 ?_
                     intro v10 w10 hown10 hg10 _
                     rw [List.nil_append] at hown10
                     have b10 := below_app (w0 := w9) (below_one w9 _) O9 hg10
                     have O10 := hown10.alloc (.cells #[.int .i64 3, .int .i64 0] 43)
                     have b10' := b10.alloc b10.size (.cells #[.int .i64 3, .int .i64 0] 43)
                     have E10 := ents_one w10 3 0
                     have hs10 := b10'.size
                     have hn10 : (es.take p).length + 1 ≤ 1000000 := by rw [HLP.out]; omega
                     clear hg10 hown10 b10 O9 E9 hs9 hn9)
                  | (at_builtin
                     refine wpList_app (v := v10) rfl _ _ rfl rfl O10 rfl E10 hn10 hs10 ?_
                     intro v11 w11 hown11 hg11 _
                     have b11 := below_app (w0 := w9) b10' O10 hg11
                     have E11 := (HE9.out.below b11).rest hcl p hpl
                     rw [if_neg hca] at E11
                     have hs11 := b11.size
                     have hn11 : (es.take p ++ [((3 : Int), (0 : Int))]).length + (es.length - p) ≤ 1000000 := by rw [List.length_append, HLP.out]; simp; omega
                     clear hg11 O10 E10 b10' hs10 hn10)
                  | (at_builtin
                     refine wpList_app (v := v11) rfl _ _ rfl rfl hown11 rfl E11 hn11 hs11 ?_
                     intro v12 w12 hown12 hg12 _
                     have b12 := below_app (w0 := w9) b11 hown11 hg12
                     have B12 := Lib.hid (B9.out.trans (b12.mono B9.out.size))
                     have HO12 := Lib.hid (hown12.mono B9.out.size)
                     clear hg12 hown11 E11 b11 hs11 hn11 b12 hown12))
              go_roundw
              case rel => exact ⟨k + 1, _, by omega, by omega, by go_num, HO12.out, by rw [length_inserted hpl]; omega, (HI.out 3 (by decide) (by decide)).trans HR2.out, B12.out⟩
              case measure => simp [intOf]; omega
            · go_wp2_with
                (first
                  | (at_builtin
                     refine wpList_app (v := .slice (some ⟨w9.heap.size, 0, none⟩) 0 0) rfl _ _ rfl rfl O9 rfl E9 hn9 hs9 ?_
                     intro v10 w10 hown10 hg10 _
                     rw [List.nil_append] at hown10
                     have b10 := below_app (w0 := w9) (below_one w9 _) O9 hg10
                     have O10 := hown10.alloc (.cells #[.int .i64 2, .int .i64 0] 43)
                     have b10' := b10.alloc b10.size (.cells #[.int .i64 2, .int .i64 0] 43)
                     have E10 := ents_one w10 2 0
                     have hs10 := b10'.size
                     have hn10 : (es.take p).length + 1 ≤ 1000000 := by rw [HLP.out]; omega
                     clear hg10 hown10 b10 O9 E9 hs9 hn9)
                  | (at_builtin
                     refine wpList_app (v := v10) rfl _ _ rfl rfl O10 rfl E10 hn10 hs10 ?_
                     intro v11 w11 hown11 hg11 _
                     have b11 := below_app (w0 := w9) b10' O10 hg11
                     have E11 := (HE9.out.below b11).rest hcl p hpl
                     rw [if_neg hca] at E11
                     have hs11 := b11.size
                     have hn11 : (es.take p ++ [((2 : Int), (0 : Int))]).length + (es.length - p) ≤ 1000000 := by rw [List.length_append, HLP.out]; simp; omega
                     clear hg11 O10 E10 b10' hs10 hn10)
                  | (at_builtin
                     refine wpList_app (v := v11) rfl _ _ rfl rfl hown11 rfl E11 hn11 hs11 ?_
                     intro v12 w12 hown12 hg12 _
                     have b12 := below_app (w0 := w9) b11 hown11 hg12
                     have B12 := Lib.hid (B9.out.trans (b12.mono B9.out.size))
                     have HO12 := Lib.hid (hown12.mono B9.out.size)
                     clear hg12 hown11 E11 b11 hs11 hn11 b12 hown12))
              go_roundw
              case rel => exact ⟨k + 1, _, by omega, by omega, by go_num, HO12.out, by rw [length_inserted hpl]; omega, (HI.out 2 (by decide) (by decide)).trans HR2.out, B12.out⟩
              case measure => simp [intOf]; omega
        · have hend : (L2 : Int) ≤ k ∨ (k < L2 ∧ k = 10) := by omega
          clear hgo
          rcases hend with hend | ⟨hend, rfl⟩
          all_goals
            go_wp2_with fail
            refine (rounds_at HE.out _ (by omega) (1 + (y : Int)) (y + 1) (by omega) (by omega)).mono ?_
            rw [HR2.out]
            rintro e w9 ⟨rfl, b9⟩
            have B9 := Lib.hid (HB2.out.trans (b9.mono HB2.out.size))
            clear b9 HB2 HE
            go_wp2
            go_ret
            exact ⟨rfl, B9.out⟩
  · go_enter Try.func9, Try.ntmps9
    go_wp2_with fail
    refine (short_no HCE.out a L c hs).mono ?_
    rintro e w' ⟨rfl, rfl⟩
    go_wp2
    go_ret
    exact ⟨rfl, HB.out⟩
end Go.Proofs.Ytpaacpcmijhcmaa
