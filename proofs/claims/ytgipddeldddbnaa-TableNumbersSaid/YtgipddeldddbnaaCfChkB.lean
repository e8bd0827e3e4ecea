/-
  Contracts of checkProgs, checkSubs, Check.
-/
import Derived.Test.YtgipddeldddbnaaCfChkA
namespace Go.Proofs.Ytgipddeldddbnaa
open Go Go.RowKit

/-- What the loop over programs keeps: R is the answer. -/
def ProgR (w : World) (n le R : Int) (ps : List (List T3)) (i : Value) (wr : World) : Prop :=
  ∃ k : Nat, k ≤ ps.length ∧ i = .int .i64 k ∧ R = chkPs n le (ps.drop k) ∧ Below w.heap.size w wr
/-- What the loop over a program's instructions keeps: b is the answer. -/
def CodeR (w : World) (n le : Int) (b : Bool) (p : List T3) (i : Value) (wr : World) : Prop :=
  ∃ k : Nat, k ≤ p.length ∧ i = .int .i64 k ∧ b = (p.drop k).all (insB n le) ∧ Below w.heap.size w wr
/-- What the loop over submissions keeps. -/
def SubR (w : World) (n le R : Int) (ss : List T3) (i : Value) (wr : World) : Prop :=
  ∃ k : Nat, k ≤ ss.length ∧ i = .int .i64 k ∧ R = chkSs n le (ss.drop k) ∧ Below w.heap.size w wr
def Returns (R : Int) (w : World) (e : Ending) (w' : World) : Prop := e = .returned (.int .i64 R) ∧ Below w.heap.size w w'
theorem ret_int {a b : Int} (h : a = b) : Ending.returned (.int .i64 a) = .returned (.int .i64 b) := by rw [h]

set_option maxHeartbeats 2000000 in
theorem checkprogs_any {w : World} {B : Nat} {c : Cfg} {pa : Option Addr} {pn : Nat} {sa : Option Addr} {sn : Nat} (h : Lists w B c pa pn sa sn) (pc sc : Nat) (hl : 1 ≤ c.le) (hl' : c.le ≤ 64) :
    Calls Try.prog 28 #[cv c pa pn pc sa sn sc] w (Returns (progsR c) w) := by
  have hlen := h.pr.1
  have hmax := h.pr.2.1
  unfold maxLen at hmax
  obtain ⟨R, hR⟩ : ∃ R, progsR c = R := ⟨_, rfl⟩
  rw [hR]
  unfold progsR at hR
  rw [hlen] at hR
  have H1 := Lib.hid (h.alloc (.cells (cc c pa pn pc sa sn sc) 25))
  have X1 := Lib.hid (Blk.made w 25 (cc c pa pn pc sa sn sc))
  have B1 := Lib.hid (below_one w (.cells (cc c pa pn pc sa sn sc) 25))
  have hs1 : w.heap.size < (w.alloc (.cells (cc c pa pn pc sa sn sc) 25)).heap.size := by simp
  cases hb : inB pn 1 32 with
  | false =>
    rw [hb] at hR
    have hR' : 2 = R := hR
    subst hR'
    have HB := Lib.hid hb
    clear hb hR hlen
    go_enter Try.func28, Try.ntmps28
    go_wp2_with (go_at_call 32; refine (within_any _ _ _ _).mono ?_; rintro e w' ⟨rfl, rfl⟩; rw [HB.out])
    go_ret
    exact ⟨rfl, B1.out⟩
  | true =>
    rw [hb, if_pos rfl] at hR
    have HB := Lib.hid hb
    have HR := Lib.hid hR
    have HL := Lib.hid hlen
    obtain ⟨_, hn32⟩ := inB_iff.1 hb
    clear hb hR hlen
    go_enter Try.func28, Try.ntmps28
    go_wp2_with (go_at_call 32; refine (within_any _ _ _ _).mono ?_; rintro e w' ⟨rfl, rfl⟩; rw [HB.out])
    generalize w.alloc (.cells (cc c pa pn pc sa sn sc) 25) = W1 at *
    go_loopw [15] (fun i wr => ProgR W1 pn c.le R c.pr i wr) (fun i _ => pn - (intOf i).toNat)
    case atStart => exact ⟨0, by omega, rfl, HR.out.symm, Below.refl _ _⟩
    case round =>
      obtain ⟨k, hk, rfl, hrk, hb⟩ := hrel
      rw [HL.out] at hk
      have HRK := Lib.hid hrk
      have HBk := Lib.hid hb
      clear hrk hb
      by_cases hlt : k < pn
      · obtain ⟨x, b, m, cp, p, rfl, hp, hxB, hx, hc0, ht⟩ := (H1.out.below HBk.out).pr.at_ hlt
        have hstep := chkPs_drop (n := pn) (le := c.le) hp
        have hpl := ht.1
        have hpm := ht.2.1
        unfold maxLen at hpm
        rw [hpl] at hstep
        have HT := Lib.hid ht
        have HPL := Lib.hid hpl
        clear hp ht hpl
        by_cases hm : 32 < m
        · rw [if_pos hm] at hstep
          have hr2 : R = 2 := HRK.out.trans hstep
          subst hr2
          clear hstep
          go_wp2
          go_ret
          exact ⟨rfl, B1.out.trans (HBk.out.mono B1.out.size)⟩
        · rw [if_neg hm] at hstep
          have HST := Lib.hid hstep
          clear hstep
          obtain ⟨t, htt⟩ : ∃ t, p.all (insB pn c.le) = t := ⟨_, rfl⟩
          have HTT := Lib.hid htt
          clear htt
          go_wp2_with fail
          go_loopw [24] (fun j wq => CodeR wr pn c.le t p j wq) (fun j _ => m - (intOf j).toNat)
          case atStart => exact ⟨0, by omega, rfl, HTT.out.symm, Below.refl _ _⟩
          case round =>
            obtain ⟨j, hj, rfl, hrj, hb⟩ := hrel
            rw [HPL.out] at hj
            have HRJ := Lib.hid hrj
            have HBj := Lib.hid hb
            clear hrj hb
            by_cases hlj : j < m
            · obtain ⟨y, o, u, v, rfl, he, hyB, hy, c0, c1, c2⟩ := (HT.out.below HBj.out).at_ hlj
              have hstep := all_drop (p := insB pn c.le) he
              have HST2 := Lib.hid hstep
              have HB2 := Lib.hid (HBj.out.alloc HBj.out.size (.cells #[.int .i64 o, .int .i64 u, .int .i64 v] 74))
              have E := eleven (((X1.out.below HBk.out).below HBj.out).alloc (.cells #[.int .i64 o, .int .i64 u, .int .i64 v] 74))
              obtain ⟨e0, e1, e2, e3, e4, e5, e6, e7, e8, e9, e10⟩ := E
              clear he hstep hc0
              go_wp2_with fail
              refine (valid_any o u v c _ pn _ _ _ _ hl hl' (by omega) _).mono ?_
              rintro e wv ⟨rfl, hbv⟩
              have HB3 := Lib.hid (HB2.out.trans (hbv.mono HB2.out.size))
              clear hbv HB2 c0 c1 c2 e0 e1 e2 e3 e4 e5 e6 e7 e8 e9 e10
              cases hv : insB pn c.le (o, u, v) with
              | false =>
                have hr : t = false := by rw [HRJ.out, HST2.out, hv, Bool.false_and]
                have hr2 : R = 1 := by
                  have := HST.out
                  rw [HTT.out, hr] at this
                  exact HRK.out.trans this
                subst hr2
                clear hv
                go_wp2
                go_ret
                exact ⟨rfl, B1.out.trans ((HBk.out.trans (HB3.out.mono HBk.out.size)).mono B1.out.size)⟩
              | true =>
                have hr : t = (p.drop (j + 1)).all (insB pn c.le) := by rw [HRJ.out, HST2.out, hv, Bool.true_and]
                have HRJ2 := Lib.hid hr
                clear hv hr
                go_wp2_with fail
                go_roundw
                case rel => exact ⟨j + 1, by rw [HPL.out]; omega, by go_num, HRJ2.out, HB3.out⟩
                case measure => simp [intOf]; omega
            · obtain rfl : j = m := by omega
              have hr : t = true := by
                rw [HRJ.out, ← HPL.out, List.drop_length]
                rfl
              have hr2 : R = chkPs pn c.le (c.pr.drop (k + 1)) := by
                have := HST.out
                rw [HTT.out, hr, if_pos rfl] at this
                exact HRK.out.trans this
              have HR2 := Lib.hid hr2
              clear hr hr2
              go_wp2_with fail
              go_roundw
              case rel => exact ⟨k + 1, by rw [HL.out]; omega, by go_num, HR2.out, HBk.out.trans (HBj.out.mono HBk.out.size)⟩
              case measure => simp [intOf]; omega
      · obtain rfl : k = pn := by omega
        have hr : R = 0 := by
          rw [HRK.out, ← HL.out, List.drop_length]
          rfl
        subst hr
        go_wp2
        go_ret
        exact ⟨rfl, B1.out.trans (HBk.out.mono B1.out.size)⟩

set_option maxHeartbeats 2000000 in
theorem checksubs_any {w : World} {B : Nat} {c : Cfg} {pa : Option Addr} {pn : Nat} {sa : Option Addr} {sn : Nat} (h : Lists w B c pa pn sa sn) (pc sc : Nat) (hl : 1 ≤ c.le) (hl' : c.le ≤ 64) (hp : 1 ≤ pn) (hp' : pn ≤ 32) :
    Calls Try.prog 29 #[cv c pa pn pc sa sn sc] w (Returns (subsR c) w) := by
  have hlen := h.su.1
  have hmax := h.su.2.1
  unfold maxLen at hmax
  obtain ⟨R, hR⟩ : ∃ R, subsR c = R := ⟨_, rfl⟩
  rw [hR]
  unfold subsR at hR
  rw [hlen, h.pr.1] at hR
  have H1 := Lib.hid (h.alloc (.cells (cc c pa pn pc sa sn sc) 25))
  have X1 := Lib.hid (Blk.made w 25 (cc c pa pn pc sa sn sc))
  have B1 := Lib.hid (below_one w (.cells (cc c pa pn pc sa sn sc) 25))
  have hs1 : w.heap.size < (w.alloc (.cells (cc c pa pn pc sa sn sc) 25)).heap.size := by simp
  by_cases hb : 64 < sn
  · rw [if_pos hb] at hR
    subst hR
    clear hlen
    go_enter Try.func29, Try.ntmps29
    go_wp2
    go_ret
    exact ⟨rfl, B1.out⟩
  · rw [if_neg hb] at hR
    have HR := Lib.hid hR
    have HL := Lib.hid hlen
    clear hR hlen
    go_enter Try.func29, Try.ntmps29
    go_wp2_with fail
    generalize w.alloc (.cells (cc c pa pn pc sa sn sc) 25) = W1 at *
    go_loopw [12] (fun i wr => SubR W1 pn c.le R c.su i wr) (fun i _ => sn - (intOf i).toNat)
    case atStart => exact ⟨0, by omega, rfl, HR.out.symm, Below.refl _ _⟩
    case round =>
      obtain ⟨k, hk, rfl, hrk, hb⟩ := hrel
      rw [HL.out] at hk
      have HRK := Lib.hid hrk
      have HBk := Lib.hid hb
      clear hrk hb
      by_cases hlt : k < sn
      · obtain ⟨x, o, u, v, rfl, he, hxB, hx, c0, c1, c2⟩ := (H1.out.below HBk.out).su.at_ hlt
        have HST := Lib.hid (chkSs_drop (n := pn) (le := c.le) he)
        have HB2 := Lib.hid (HBk.out.alloc HBk.out.size (.cells #[.int .i64 o, .int .i64 u, .int .i64 v] 76))
        obtain ⟨e0, e1, e2, e3, e4, e5, e6, e7, e8, e9, e10⟩ := eleven ((X1.out.below HBk.out).alloc (.cells #[.int .i64 o, .int .i64 u, .int .i64 v] 76))
        clear he e0 e2 e3 e4 e5 e6 e7 e8 e10
        cases ho : inB o 0 (pn - 1) with
        | false =>
          have hr2 : R = 3 := by
            have := HRK.out.trans HST.out
            rw [ho] at this
            exact this
          subst hr2
          have HO := Lib.hid ho
          clear ho
          go_wp2_with (go_at_call 32; refine (within_any _ _ _ _).mono ?_; rintro e w' ⟨rfl, rfl⟩; rw [HO.out])
          go_ret
          exact ⟨rfl, B1.out.trans (HB2.out.mono B1.out.size)⟩
        | true =>
          have HO := Lib.hid ho
          clear ho
          go_wp2_with fail
          refine (within_any _ _ _ _).mono ?_
          rintro e w' ⟨rfl, rfl⟩
          rw [HO.out]
          go_wp2_with fail
          refine (within_any _ _ _ _).mono ?_
          rintro e w' ⟨rfl, rfl⟩
          cases hu : inB u 0 (c.le - 1) with
          | false =>
            have hr2 : R = 1 := by
              have := HRK.out.trans HST.out
              unfold subOk at this
              rw [HO.out, hu] at this
              exact this
            subst hr2
            clear hu
            go_wp2
            go_ret
            exact ⟨rfl, B1.out.trans (HB2.out.mono B1.out.size)⟩
          | true =>
            have HU := Lib.hid hu
            clear hu
            go_wp2_with fail
            refine (within_any _ _ _ _).mono ?_
            rintro e w' ⟨rfl, rfl⟩
            cases hv : inB v 0 16777215 with
            | false =>
              have hr2 : R = 1 := by
                have := HRK.out.trans HST.out
                unfold subOk at this
                rw [HO.out, HU.out, hv] at this
                exact this
              subst hr2
              clear hv
              go_wp2
              go_ret
              exact ⟨rfl, B1.out.trans (HB2.out.mono B1.out.size)⟩
            | true =>
              have hr2 : R = chkSs pn c.le (c.su.drop (k + 1)) := by
                have := HRK.out.trans HST.out
                unfold subOk at this
                rw [HO.out, HU.out, hv] at this
                exact this
              have HR2 := Lib.hid hr2
              clear hr2 hv
              go_wp2_with fail
              go_roundw
              case rel => exact ⟨k + 1, by rw [HL.out]; omega, by go_num, HR2.out, HB2.out⟩
              case measure => simp [intOf]; omega
      · obtain rfl : k = sn := by omega
        have hr : R = 0 := by
          rw [HRK.out, ← HL.out, List.drop_length]
          rfl
        subst hr
        go_wp2
        go_ret
        exact ⟨rfl, B1.out.trans (HBk.out.mono B1.out.size)⟩

set_option maxHeartbeats 2000000 in
theorem check_any {w : World} {B : Nat} {c : Cfg} {pa : Option Addr} {pn : Nat} {sa : Option Addr} {sn : Nat} (h : Lists w B c pa pn sa sn) (pc sc : Nat) :
    Calls Try.prog 19 #[cv c pa pn pc sa sn sc] w (Returns (chk c) w) := by
  have HN := Lib.hid h.pr.1
  obtain ⟨R, hR⟩ : ∃ R, chk c = R := ⟨_, rfl⟩
  rw [hR]
  unfold chk at hR
  have H1 := Lib.hid (h.alloc (.cells (cc c pa pn pc sa sn sc) 25))
  have X1 := Lib.hid (Blk.made w 25 (cc c pa pn pc sa sn sc))
  have B1 := Lib.hid (below_one w (.cells (cc c pa pn pc sa sn sc) 25))
  have HR := Lib.hid hR
  clear hR h
  go_enter Try.func19, Try.ntmps19
  go_wp2_with fail
  generalize w.alloc (.cells (cc c pa pn pc sa sn sc) 25) = W1 at *
  refine (numbersfit_any c _ pn _ _ sn _ _).mono ?_
  rintro e w1 ⟨rfl, b1⟩
  have H2 := Lib.hid (H1.out.below b1)
  have X2 := Lib.hid (X1.out.below b1)
  have B2 := Lib.hid (B1.out.trans (b1.mono B1.out.size))
  clear b1
  cases hn : numsB c with
  | false =>
    have hr : R = 1 := by
      have := HR.out
      rw [hn] at this
      exact this.symm
    subst hr
    clear hn
    go_wp2
    go_ret
    exact ⟨rfl, B2.out⟩
  | true =>
    have hr := HR.out
    rw [hn, if_pos rfl] at hr
    have HR2 := Lib.hid hr
    obtain ⟨_, ⟨hl, hl'⟩, _⟩ := numsB_iff.1 hn
    obtain ⟨e0, e1, e2, e3, e4, e5, e6, e7, e8, e9, e10⟩ := eleven X2.out
    clear hn hr
    go_wp2_with fail
    refine (checkprogs_any H2.out _ _ hl hl').mono ?_
    rintro e w2 ⟨rfl, b2⟩
    have H3 := Lib.hid (H2.out.below b2)
    have X3 := Lib.hid (X2.out.below b2)
    have B3 := Lib.hid (B2.out.trans (b2.mono B2.out.size))
    clear b2 e0 e1 e2 e3 e4 e5 e6 e7 e8 e9 e10
    by_cases hp : progsR c = 0
    · have hr := HR2.out
      rw [if_pos hp] at hr
      have HR3 := Lib.hid hr
      have hq : 1 ≤ pn ∧ pn ≤ 32 := by
        unfold progsR at hp
        rw [HN.out] at hp
        cases hb : inB pn 1 32 with
        | false =>
          rw [hb] at hp
          simp at hp
        | true =>
          have := inB_iff.1 hb
          omega
      have HP := Lib.hid hp
      obtain ⟨e0, e1, e2, e3, e4, e5, e6, e7, e8, e9, e10⟩ := eleven X3.out
      rw [HP.out]
      clear hp hr
      go_wp2_with fail
      refine (checksubs_any H3.out _ _ hl hl' hq.1 hq.2).mono ?_
      rintro e w3 ⟨rfl, b3⟩
      have B4 := Lib.hid (B3.out.trans (b3.mono B3.out.size))
      rw [HR3.out]
      clear b3
      go_wp2
      go_ret
      exact ⟨rfl, B4.out⟩
    · have hr := HR2.out
      rw [if_neg hp] at hr
      rw [hr]
      rw [hr] at hp
      have hp' : (R == 0) = false := by simpa using hp
      have hp2 : (R != 0) = true := by simpa using hp
      clear hr
      go_wp2
      go_ret
      exact ⟨rfl, B3.out⟩
end Go.Proofs.Ytgipddeldddbnaa
