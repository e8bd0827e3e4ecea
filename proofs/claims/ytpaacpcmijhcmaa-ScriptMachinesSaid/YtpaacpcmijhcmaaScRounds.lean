/-
  Contract of Rounds of package script.
-/
import Derived.Test.YtpaacpcmijhcmaaScMap
import Derived.Test.YtpaacpcmijhcmaaScCallsC
namespace Go.Proofs.Ytpaacpcmijhcmaa
open Go Go.RowKit Go.Maps

/-- The machine m is missing behind the entries of a round. -/
def need (n : Int) (cur : List (Int × Int)) (m : Int) : Bool := (decide (0 ≤ m) && decide (m < n)) && !(cur.any fun e => cls n e == m)

theorem need_nil (n m : Int) : need n [] m = (decide (0 ≤ m) && decide (m < n)) := by simp [need]
theorem need_add (n : Int) (cur : List (Int × Int)) (e : Int × Int) (m : Int) : need n (cur ++ [e]) m = (need n cur m && !(m == cls n e)) := by
  unfold need
  rw [List.any_append, Bool.not_or, ← Bool.and_assoc]
  congr 1
  by_cases h : m = cls n e
  · subst h
    simp
  · have h1 : (m == cls n e) = false := by simpa using h
    have h2 : (cls n e == m) = false := by simpa using fun e => h e.symm
    simp [h1, h2]
theorem need_none (n : Int) (cur : List (Int × Int)) (e : Int × Int) (h : e.1 ≠ 0) (m : Int) : need n (cur ++ [e]) m = need n cur m := by
  rw [need_add, cls_other n e h]
  by_cases hm : 0 ≤ m
  · have : (m == -1) = false := by simp; omega
    rw [this, Bool.not_false, Bool.and_true]
  · unfold need
    rw [decide_eq_false hm]
    simp
theorem comp_need (n : Int) (cur : List (Int × Int)) : compB n cur = true ↔ (cur.any fun e => e.1 == 1) = true ∧ ∀ m : Int, need n cur m = false := by
  rw [compB_iff]
  unfold Comp
  constructor
  · rintro ⟨⟨e, he, h1⟩, h2⟩
    refine ⟨List.any_eq_true.2 ⟨e, he, by simpa using h1⟩, fun m => ?_⟩
    unfold need
    by_cases h0 : 0 ≤ m
    · by_cases hm : m < n
      · obtain ⟨e, he, hc⟩ := h2 m h0 hm
        have : (cur.any fun e => cls n e == m) = true := List.any_eq_true.2 ⟨e, he, by simpa using hc⟩
        rw [this]
        simp
      · rw [decide_eq_false hm]
        simp
    · rw [decide_eq_false h0]
      simp
  · rintro ⟨h1, h2⟩
    obtain ⟨e, he, h⟩ := List.any_eq_true.1 h1
    refine ⟨⟨e, he, by simpa using h⟩, fun m h0 hm => ?_⟩
    have := h2 m
    unfold need at this
    rw [decide_eq_true h0, decide_eq_true hm] at this
    simp at this
    obtain ⟨a, b, hab, hc⟩ := this
    exact ⟨(a, b), hab, hc⟩

/-- What the loop of Rounds keeps. -/
def RoundsR (w : World) (b : Nat) (n : Int) (es : List (Int × Int)) (c t i : Value) (wr : World) : Prop :=
  ∃ (k r : Nat) (cur : List (Int × Int)), k ≤ es.length ∧ i = .int .i64 k ∧ c = .int .i64 r ∧ t = .bool (cur.any fun e => e.1 == 1) ∧ r ≤ k ∧ r + rnds n cur (es.drop k) = rnds n [] es ∧ compB n cur = false ∧ MSet wr b (need n cur) ∧ Below w.heap.size w wr

theorem drop_step {es : List (Int × Int)} {k : Nat} {e : Int × Int} (h : es[k]? = some e) : es.drop k = e :: es.drop (k + 1) := by
  obtain ⟨hk, rfl⟩ := List.getElem?_eq_some_iff.1 h
  exact List.drop_eq_getElem_cons hk

theorem rounds_more {n : Int} {es cur : List (Int × Int)} {k r : Nat} {e : Int × Int} (h : r + rnds n cur (es.drop k) = rnds n [] es) (he : es[k]? = some e) (hc : compB n (cur ++ [e]) = false) : r + rnds n (cur ++ [e]) (es.drop (k + 1)) = rnds n [] es := by
  rw [drop_step he, rnds_no hc] at h
  exact h
theorem rounds_done {n : Int} {es cur : List (Int × Int)} {k r : Nat} {e : Int × Int} (h : r + rnds n cur (es.drop k) = rnds n [] es) (he : es[k]? = some e) (hc : compB n (cur ++ [e]) = true) : (r + 1) + rnds n [] (es.drop (k + 1)) = rnds n [] es := by
  rw [drop_step he, rnds_yes hc] at h
  omega

/-- The number of rounds is returned. -/
def rndsOf (n : Int) (es : List (Int × Int)) : Nat := if n < 1 then 0 else rnds n [] es

theorem fr_below {w wr w' : World} {b : Nat} (h : Below w.heap.size w wr) (f : Fr [b] wr w') (hb : w.heap.size ≤ b) : Below w.heap.size w w' :=
  h.trans (f.below (B := w.heap.size) h.size (by simpa using hb))

set_option maxHeartbeats 2000000 in
theorem rounds_any {w : World} {a : Option Addr} {L : Nat} {es : List (Int × Int)} (h : Ents w a L es) (c : Nat) (hL : L ≤ 1000000) (n : Int) :
    Calls Try.prog 20 #[.slice a L c, .int .i64 n] w (Gives (.int .i64 (rndsOf n es)) w) := by
  have hl := h.1
  have H := Lib.hid h
  clear h
  by_cases hn : n < 1
  · have e0 : rndsOf n es = 0 := if_pos hn
    rw [e0]
    clear e0 hl
    go_enter Try.func20, Try.ntmps20
    go_wp2
    go_step3
    go_wp2
    rw [Exit.noGoto_ret]
    go_ret
    exact ⟨rfl, Below.refl _ _⟩
  · by_cases hnL : (L : Int) ≤ n
    · have e0 : rndsOf n es = 0 := by
        unfold rndsOf
        rw [if_neg hn]
        exact rnds_short (by omega) es [] (by simp; omega)
      rw [e0]
      clear e0 hl
      go_enter Try.func20, Try.ntmps20
      go_wp2
      go_step3
      go_wp2
      rw [Exit.noGoto_ret]
      go_ret
      exact ⟨rfl, Below.refl _ _⟩
    · have e0 : rndsOf n es = rnds n [] es := if_neg hn
      rw [e0]
      clear e0
      subst hl
      have hn1 : 1 ≤ n := by omega
      obtain ⟨R, hR⟩ : ∃ R, rnds n [] es = R := ⟨_, rfl⟩
      rw [hR]
      have HR := Lib.hid hR
      clear hR
      have hmm := @run_makeMap Try.prog
      have M0 := MSet.made w
      have B0 := below_one w (.map #[] 0)
      go_enter Try.func20, Try.ntmps20
      go_wp2_with fail
      go_step3
      go_wp2_with fail
      refine (begin_any M0 n (by omega)).mono ?_
      rintro e w1 ⟨rfl, M1, F1⟩
      have B1 := fr_below B0 F1 (Nat.le_refl _)
      have M1' := Lib.hid (M1.congr (fun m => (need_nil n m).symm))
      clear M0 B0 M1 F1 hmm
      go_wp2_with fail
      go_step3
      go_wp2_with fail
      go_loopw [5, 6, 24] (fun c t i wr => RoundsR w w.heap.size n es c t i wr) (fun _ _ i _ => es.length - (intOf i).toNat)
      case atStart => exact ⟨0, 0, [], by omega, rfl, rfl, rfl, by omega, by simp, compB_nil n, M1'.out, B1⟩
      case round =>
        obtain ⟨k, r, cur, hk, rfl, rfl, rfl, hr, hsum, hcur, hm, hb⟩ := hrel
        have HS := Lib.hid hsum
        have HC := Lib.hid hcur
        have HM := Lib.hid hm
        have HB := Lib.hid hb
        clear hsum hcur hm hb B1 M1'
        by_cases hlt : k < es.length
        · obtain ⟨x, k1, v1, rfl, he, _, c0, c1⟩ := (H.out.below HB.out).at_ hlt
          have HE := Lib.hid he
          clear he
          have B2 := HB.out.alloc HB.out.size (.cells #[.int .i64 k1, .int .i64 v1] 43)
          have M2 := HM.out.alloc (.cells #[.int .i64 k1, .int .i64 v1] 43)
          have HB2 := Lib.hid B2
          have HM2 := Lib.hid M2
          clear B2 M2 HB HM
          by_cases hk1 : k1 = 1
          · subst hk1
            by_cases hall : ∀ m : Int, need n cur m = false
            · have hl := fun ty => HM2.out.len0 hall ty
              have hcomp : compB n (cur ++ [(1, v1)]) = true := (comp_need n _).2 ⟨by simp, fun m => by rw [need_none n cur (1, v1) (by simp)]; exact hall m⟩
              have HS2 := Lib.hid (rounds_done HS.out HE.out hcomp)
              clear hcomp HS HE HC hall
              go_wp2_with fail
              refine (begin_any HM2.out n (by omega)).mono ?_
              rintro e w3 ⟨rfl, M3, F3⟩
              have HB3 := Lib.hid (fr_below HB2.out F3 (Nat.le_refl _))
              have HM3 := Lib.hid (M3.congr (fun m => (need_nil n m).symm))
              clear M3 F3 HB2 HM2 c0 c1 hl
              go_wp2_with fail
              go_roundw
              case rel => exact ⟨k + 1, r + 1, [], by omega, by go_num, by go_num, rfl, by omega, HS2.out, compB_nil n, HM3.out, HB3.out⟩
              case measure => simp [intOf]; omega
            · obtain ⟨N, hN, hl⟩ := HM2.out.len1 hall
              have hcomp : compB n (cur ++ [(1, v1)]) = false := by
                cases hc : compB n (cur ++ [(1, v1)]) with
                | false => rfl
                | true => exact absurd (fun m => by have := ((comp_need n _).1 hc).2 m; rwa [need_none n cur (1, v1) (by simp)] at this) hall
              have HS2 := Lib.hid (rounds_more HS.out HE.out hcomp)
              have HC2 := Lib.hid hcomp
              have HM3 := Lib.hid (HM2.out.congr (fun m => (need_none n cur (1, v1) (by simp) m).symm))
              clear hcomp HS HE HC hall HM2
              go_wp2_with fail
              go_roundw
              case rel => exact ⟨k + 1, r, _, by omega, by go_num, rfl, by simp, by omega, HS2.out, HC2.out, HM3.out, HB2.out⟩
              case measure => simp [intOf]; omega
          · have hk1' : (k1 == 1) = false := by simpa using hk1
            by_cases hk0 : k1 = 0
            · subst hk0
              clear hk1 hk1'
              have hcls := cls_in n (0, v1) rfl hn1
              obtain ⟨g, hg⟩ : ∃ g, cls n (0, v1) = g := ⟨_, rfl⟩
              rw [hg] at hcls
              obtain ⟨hg0, hg1⟩ := hcls
              have hwf : (Lit.int .i64 g).wf = true := WalkArith.wf_i64 (by omega)
              have HG := Lib.hid hg
              clear hg
              have hany : ((cur ++ [((0 : Int), v1)]).any fun e => e.1 == 1) = (cur.any fun e => e.1 == 1) := by simp
              have HA := Lib.hid hany
              clear hany
              by_cases hall : (cur.any fun e => e.1 == 1) = true ∧ ∀ m : Int, need n (cur ++ [(0, v1)]) m = false
              · have hcomp : compB n (cur ++ [(0, v1)]) = true := (comp_need n _).2 ⟨by rw [HA.out]; exact hall.1, hall.2⟩
                have HS2 := Lib.hid (rounds_done HS.out HE.out hcomp)
                obtain ⟨ht, hall⟩ := hall
                have HALL := Lib.hid hall
                rw [ht]
                clear hcomp HS HE HC hall ht HA
                go_wp2_with fail
                refine (mach_any 0 v1 n (by omega) _).mono ?_
                rintro e w3 ⟨rfl, hb3⟩
                have HB3 := Lib.hid (HB2.out.trans (hb3.mono HB2.out.size))
                have M3 := HM2.out.below hb3
                rw [HG.out]
                clear hb3 HB2 HM2 c0 c1
                go_wp2_with
                  (at_delete
                   refine wpList_mdel rfl _ _ rfl M3 rfl g rfl hwf ?_
                   intro w4 M4 g4
                   have HM4 := Lib.hid (M4.congr (q := need n (cur ++ [(0, v1)])) (fun m => by rw [need_add, HG.out]))
                   have HB4 := Lib.hid (fr_below HB3.out (fr_grown g4) (Nat.le_refl _))
                   have hl := fun ty => HM4.out.len0 HALL.out ty
                   clear M3 M4 g4 HB3)
                refine (begin_any HM4.out n (by omega)).mono ?_
                rintro e w5 ⟨rfl, M5, F5⟩
                have HB5 := Lib.hid (fr_below HB4.out F5 (Nat.le_refl _))
                have HM5 := Lib.hid (M5.congr (fun m => (need_nil n m).symm))
                clear M5 F5 HB4 HM4 hl HALL
                go_wp2_with fail
                go_roundw
                case rel => exact ⟨k + 1, r + 1, [], by omega, by go_num, by go_num, rfl, by omega, HS2.out, compB_nil n, HM5.out, HB5.out⟩
                case measure => simp [intOf]; omega
              · have hcomp : compB n (cur ++ [(0, v1)]) = false := by
                  cases hc : compB n (cur ++ [(0, v1)]) with
                  | false => rfl
                  | true =>
                    obtain ⟨h1, h2⟩ := (comp_need n _).1 hc
                    exact absurd ⟨by rw [HA.out] at h1; exact h1, h2⟩ hall
                have HS2 := Lib.hid (rounds_more HS.out HE.out hcomp)
                have HC2 := Lib.hid hcomp
                have HALL := Lib.hid hall
                clear hcomp HS HE HC hall
                generalize ht : (cur.any fun e => e.1 == 1) = t at HA HALL
                have HT := Lib.hid ht
                clear ht
                cases t with
                | true =>
                  go_wp2_with fail
                  refine (mach_any 0 v1 n (by omega) _).mono ?_
                  rintro e w3 ⟨rfl, hb3⟩
                  have HB3 := Lib.hid (HB2.out.trans (hb3.mono HB2.out.size))
                  have M3 := HM2.out.below hb3
                  rw [HG.out]
                  clear hb3 HB2 HM2 c0 c1
                  go_wp2_with
                    (at_delete
                     refine wpList_mdel rfl _ _ rfl M3 rfl g rfl hwf ?_
                     intro w4 M4 g4
                     have HM4 := Lib.hid (M4.congr (q := need n (cur ++ [(0, v1)])) (fun m => by rw [need_add, HG.out]))
                     have HB4 := Lib.hid (fr_below HB3.out (fr_grown g4) (Nat.le_refl _))
                     obtain ⟨N, hN, hl⟩ := HM4.out.len1 (fun hx => HALL.out ⟨by trivial, hx⟩)
                     clear M3 M4 g4 HB3)
                  go_roundw
                  case rel => exact ⟨k + 1, r, _, by omega, by go_num, rfl, by rw [HA.out], by omega, HS2.out, HC2.out, HM4.out, HB4.out⟩
                  case measure => simp [intOf]; omega
                | false =>
                  go_wp2_with fail
                  refine (mach_any 0 v1 n (by omega) _).mono ?_
                  rintro e w3 ⟨rfl, hb3⟩
                  have HB3 := Lib.hid (HB2.out.trans (hb3.mono HB2.out.size))
                  have M3 := HM2.out.below hb3
                  rw [HG.out]
                  clear hb3 HB2 HM2 c0 c1
                  go_wp2_with
                    (at_delete
                     refine wpList_mdel rfl _ _ rfl M3 rfl g rfl hwf ?_
                     intro w4 M4 g4
                     have HM4 := Lib.hid (M4.congr (q := need n (cur ++ [(0, v1)])) (fun m => by rw [need_add, HG.out]))
                     have HB4 := Lib.hid (fr_below HB3.out (fr_grown g4) (Nat.le_refl _))
                     clear M3 M4 g4 HB3)
                  go_roundw
                  case rel => exact ⟨k + 1, r, _, by omega, by go_num, rfl, by rw [HA.out], by omega, HS2.out, HC2.out, HM4.out, HB4.out⟩
                  case measure => simp [intOf]; omega
            · have hk0' : (k1 == 0) = false := by simpa using hk0
              have hcomp : compB n (cur ++ [(k1, v1)]) = false := by
                have := compB_inert (e := (k1, v1)) hk0 hk1 hn1 cur []
                simp only [List.append_nil] at this
                rw [this]
                exact HC.out
              have HS2 := Lib.hid (rounds_more HS.out HE.out hcomp)
              have HC2 := Lib.hid hcomp
              have HA : ((cur ++ [(k1, v1)]).any fun e => e.1 == 1) = (cur.any fun e => e.1 == 1) := by simp [hk1]
              have HA' := Lib.hid HA
              have HM3 := Lib.hid (HM2.out.congr (fun m => (need_none n cur (k1, v1) hk0 m).symm))
              clear hcomp HS HE HC HM2 hk0 hk1 HA
              go_wp2_with fail
              go_roundw
              case rel => exact ⟨k + 1, r, _, by omega, by go_num, by first | rfl | trivial, by rw [HA'.out], by omega, HS2.out, HC2.out, HM3.out, HB2.out⟩
              case measure => simp [intOf]; omega
        · obtain rfl : k = es.length := by omega
          have hr' : r = R := by
            have := HS.out
            rw [List.drop_length] at this
            rw [← HR.out, ← this]
            rfl
          subst hr'
          clear HS HC HM
          go_wp2
          try rw [Exit.noGoto_ret]
          go_ret
          exact ⟨rfl, HB.out⟩
end Go.Proofs.Ytpaacpcmijhcmaa
