/-
  Contracts of within, in, numbersFit, numbers, valid, instr.
  Contracts of checkProgs, checkSubs, Check.
-/
import Derived.Test.YtgipddeldddbnaaGreatCfBase
namespace Go.Proofs.YtgipddeldddbnaaGreat
open Go Go.RowKit

theorem inB_yes {v a b : Int} (h : a ≤ v) (h' : v ≤ b) : inB v a b = true := inB_iff.2 ⟨h, h'⟩
theorem within_any (v a b : Int) (w : World) : Calls Tryz.prog 35 #[.int .i64 v, .int .i64 a, .int .i64 b] w fun e w' => e = .returned (.bool (inB v a b)) ∧ w = w' := by
  have hu : inB v a b = (decide (a ≤ v) && decide (v ≤ b)) := by unfold inB; rfl
  rw [hu]
  go_enter Tryz.func35, Tryz.ntmps35
  go_wp2
  all_goals
    go_ret
    first
      | (simp_all; done)
      | (simp_all; omega)
def NumF (c : Cfg) (w : World) (e : Ending) (w' : World) : Prop := e = .returned (.bool (numsB c)) ∧ Below w.heap.size w w'

set_option maxHeartbeats 2000000 in
theorem numbersfit_any (c : Cfg) (pa : Option Addr) (pn pc : Nat) (sa : Option Addr) (sn sc : Nat) (w : World) :
    Calls Tryz.prog 30 #[cv c pa pn pc sa sn sc] w (NumF c w) := by
  go_enter Tryz.func30, Tryz.ntmps30
  go_wp2_with (go_at_call 35; refine (within_any _ _ _ _).mono ?_; rintro e w' ⟨rfl, rfl⟩)
  all_goals
    go_ret
    refine ⟨?_, below_one _ _⟩
    unfold numsB
    first
      | (rw [show min 8 c.le = 8 by omega]; simp [*]; done)
      | (rw [show min 8 c.le = c.le by omega]; simp [*]; done)
      | (simp [*]; done)

set_option maxHeartbeats 2000000 in
theorem valid_any (o p q : Int) (c : Cfg) (pa : Option Addr) (pn pc : Nat) (sa : Option Addr) (sn sc : Nat) (hl : 1 ≤ c.le) (hl' : c.le ≤ 64) (hn : pn ≤ 1000000) (w : World) :
    Calls Tryz.prog 36 #[.agg #[.int .i64 o, .int .i64 p, .int .i64 q], cv c pa pn pc sa sn sc] w fun e w' => e = .returned (.bool (insB pn c.le (o, p, q))) ∧ Below w.heap.size w w' := by
  have B0 : ∀ o1 o2, Below w.heap.size w ((w.alloc o1).alloc o2) := fun o1 o2 => (below_one w o1).alloc (by simp) o2
  by_cases h0 : o = 0
  · subst h0
    have e : insB pn c.le (0, p, q) = (inB p 1 64 && decide (q = 0)) := rfl
    rw [e]
    go_enter Tryz.func36, Tryz.ntmps36
    go_wp2_with (go_at_call 35; refine (within_any _ _ _ _).mono ?_; rintro e w' ⟨rfl, rfl⟩)
    all_goals
      go_ret
      refine ⟨?_, B0 _ _⟩
      first
        | (simp [*]; done)
        | (simp [*]; rfl)
  · have h0' : (o == 0) = false := by simpa using h0
    by_cases h1 : o = 1
    · subst h1
      have e : insB pn c.le (1, p, q) = (inB p 0 (pn - 1) && inB q 0 (c.le - 1)) := rfl
      rw [e]
      go_enter Tryz.func36, Tryz.ntmps36
      go_wp2_with (go_at_call 35; refine (within_any _ _ _ _).mono ?_; rintro e w' ⟨rfl, rfl⟩)
      all_goals
        go_ret
        refine ⟨?_, B0 _ _⟩
        first
          | (simp [*]; done)
          | (simp [*]; rfl)
    · have h1' : (o == 1) = false := by simpa using h1
      by_cases h2 : o = 2
      · subst h2
        have e : insB pn c.le (2, p, q) = (inB p 0 31 && decide (q = 0)) := rfl
        rw [e]
        go_enter Tryz.func36, Tryz.ntmps36
        go_wp2_with (go_at_call 35; refine (within_any _ _ _ _).mono ?_; rintro e w' ⟨rfl, rfl⟩)
        all_goals
          go_ret
          refine ⟨?_, B0 _ _⟩
          first
            | (simp [*]; done)
            | (simp [*]; rfl)
      · have h2' : (o == 2) = false := by simpa using h2
        have e : insB pn c.le (o, p, q) = false := by
          unfold insB
          rw [if_neg h0, if_neg h1, if_neg h2]
        rw [e]
        go_enter Tryz.func36, Tryz.ntmps36
        go_wp2
        go_ret
        exact ⟨rfl, B0 _ _⟩

end Go.Proofs.YtgipddeldddbnaaGreat

namespace Go.Proofs.YtgipddeldddbnaaGreat
open Go Go.RowKit

/-- What the loop over programs keeps: R is the answer. -/
def ProgR (w : World) (n le R : Int) (ps : List (List T3)) (i : Value) (wr : World) : Prop :=
  ∃ k : Nat, k ≤ ps.length ∧ i = .int .i64 k ∧ R = chkPs n le (ps.drop k) ∧ Below w.heap.size w wr
/-- What the loop over a program's instructions keeps: b is the answer. -/
def CodeR (w : World) (n le : Int) (b : Bool) (p : List T3) (i : Value) (wr : World) : Prop :=
  ∃ k : Nat, k ≤ p.length ∧ i = .int .i64 k ∧ b = (p.drop k).all (insB n le) ∧ Below w.heap.size w wr
/-- What the loop over submissions keeps. -/
def SubR (w : World) (n le R : Int) (ss : List T3) (i : Value) (wr : World) : Prop :=
  ∃ k : Nat, k ≤ ss.length ∧ i = .int .i64 k ∧ R = chkSs n le (ss.drop k) ∧ Below w.heap.size w wr
def Returns (R : Int) (w : World) (e : Ending) (w' : World) : Prop := e = .returned (.int .i64 R) ∧ Below w.heap.size w w'
theorem ret_int {a b : Int} (h : a = b) : Ending.returned (.int .i64 a) = .returned (.int .i64 b) := by rw [h]

set_option maxHeartbeats 2000000 in
theorem checkprogs_any {w : World} {B : Nat} {c : Cfg} {pa : Option Addr} {pn : Nat} {sa : Option Addr} {sn : Nat} (h : Lists w B c pa pn sa sn) (pc sc : Nat) (hl : 1 ≤ c.le) (hl' : c.le ≤ 64) :
    Calls Tryz.prog 31 #[cv c pa pn pc sa sn sc] w (Returns (progsR c) w) := by
  have hlen := h.pr.1
  have hmax := h.pr.2.1
  unfold maxLen at hmax
  obtain ⟨R, hR⟩ : ∃ R, progsR c = R := ⟨_, rfl⟩
  rw [hR]
  unfold progsR at hR
  rw [hlen] at hR
  have H1 := Lib.hid (h.alloc (.cells (cc c pa pn pc sa sn sc) 30))
  have X1 := Lib.hid (Blk.made w 30 (cc c pa pn pc sa sn sc))
  have B1 := Lib.hid (below_one w (.cells (cc c pa pn pc sa sn sc) 30))
  have hs1 : w.heap.size < (w.alloc (.cells (cc c pa pn pc sa sn sc) 30)).heap.size := by simp
  cases hb : inB pn 1 32 with
  | false =>
    rw [hb] at hR
    have hR' : 2 = R := hR
    subst hR'
    have HB := Lib.hid hb
    clear hb hR hlen
    go_enter Tryz.func31, Tryz.ntmps31
    go_wp2_with (go_at_call 35; refine (within_any _ _ _ _).mono ?_; rintro e w' ⟨rfl, rfl⟩; rw [HB.out])
    go_ret
    exact ⟨rfl, B1.out⟩
  | true =>
    rw [hb, if_pos rfl] at hR
    have HB := Lib.hid hb
    have HR := Lib.hid hR
    have HL := Lib.hid hlen
    obtain ⟨_, hn32⟩ := inB_iff.1 hb
    clear hb hR hlen
    go_enter Tryz.func31, Tryz.ntmps31
    go_wp2_with (go_at_call 35; refine (within_any _ _ _ _).mono ?_; rintro e w' ⟨rfl, rfl⟩; rw [HB.out])
    generalize w.alloc (.cells (cc c pa pn pc sa sn sc) 30) = W1 at *
    go_loopw [15] (fun i wr => ProgR W1 pn c.le R c.pr i wr) (fun i _ => pn - (intOf i).toNat)
    case atStart => exact ⟨0, by omega, rfl, HR.out.symm, Below.refl _ _⟩
    case round =>
      obtain ⟨k, hk, rfl, hrk, hb⟩ := hrel
      rw [HL.out] at hk
      have HRK := Lib.hid hrk
      have HBk := Lib.hid hb
      clear hrk hb
      by_cases hlt : k < pn
      · obtain ⟨x, b, m, cp, p, rfl, hp, hxB, hx, hc0, ht⟩ := (H1.out.below HBk.out).pr.at_ hlt
        have hstep := chkPs_drop (n := pn) (le := c.le) hp
        have hpl := ht.1
        have hpm := ht.2.1
        unfold maxLen at hpm
        rw [hpl] at hstep
        have HT := Lib.hid ht
        have HPL := Lib.hid hpl
        clear hp ht hpl
        by_cases hm : 32 < m
        · rw [if_pos hm] at hstep
          have hr2 : R = 2 := HRK.out.trans hstep
          subst hr2
          clear hstep
          go_wp2
          go_ret
          exact ⟨rfl, B1.out.trans (HBk.out.mono B1.out.size)⟩
        · rw [if_neg hm] at hstep
          have HST := Lib.hid hstep
          clear hstep
          obtain ⟨t, htt⟩ : ∃ t, p.all (insB pn c.le) = t := ⟨_, rfl⟩
          have HTT := Lib.hid htt
          clear htt
          go_wp2_with fail
          go_loopw [24] (fun j wq => CodeR wr pn c.le t p j wq) (fun j _ => m - (intOf j).toNat)
          case atStart => exact ⟨0, by omega, rfl, HTT.out.symm, Below.refl _ _⟩
          case round =>
            obtain ⟨j, hj, rfl, hrj, hb⟩ := hrel
            rw [HPL.out] at hj
            have HRJ := Lib.hid hrj
            have HBj := Lib.hid hb
            clear hrj hb
            by_cases hlj : j < m
            · obtain ⟨y, o, u, v, rfl, he, hyB, hy, c0, c1, c2⟩ := (HT.out.below HBj.out).at_ hlj
              have hstep := all_drop (p := insB pn c.le) he
              have HST2 := Lib.hid hstep
              have HB2 := Lib.hid (HBj.out.alloc HBj.out.size (.cells #[.int .i64 o, .int .i64 u, .int .i64 v] 84))
              have E := eleven (((X1.out.below HBk.out).below HBj.out).alloc (.cells #[.int .i64 o, .int .i64 u, .int .i64 v] 84))
              obtain ⟨e0, e1, e2, e3, e4, e5, e6, e7, e8, e9, e10⟩ := E
              clear he hstep hc0
              go_wp2_with fail
              refine (valid_any o u v c _ pn _ _ _ _ hl hl' (by omega) _).mono ?_
              rintro e wv ⟨rfl, hbv⟩
              have HB3 := Lib.hid (HB2.out.trans (hbv.mono HB2.out.size))
              clear hbv HB2 c0 c1 c2 e0 e1 e2 e3 e4 e5 e6 e7 e8 e9 e10
              cases hv : insB pn c.le (o, u, v) with
              | false =>
                have hr : t = false := by rw [HRJ.out, HST2.out, hv, Bool.false_and]
                have hr2 : R = 1 := by
                  have := HST.out
                  rw [HTT.out, hr] at this
                  exact HRK.out.trans this
                subst hr2
                clear hv
                go_wp2
                go_ret
                exact ⟨rfl, B1.out.trans ((HBk.out.trans (HB3.out.mono HBk.out.size)).mono B1.out.size)⟩
              | true =>
                have hr : t = (p.drop (j + 1)).all (insB pn c.le) := by rw [HRJ.out, HST2.out, hv, Bool.true_and]
                have HRJ2 := Lib.hid hr
                clear hv hr
                go_wp2_with fail
                go_roundw
                case rel => exact ⟨j + 1, by rw [HPL.out]; omega, by go_num, HRJ2.out, HB3.out⟩
                case measure => simp [intOf]; omega
            · obtain rfl : j = m := by omega
              have hr : t = true := by
                rw [HRJ.out, ← HPL.out, List.drop_length]
                rfl
              have hr2 : R = chkPs pn c.le (c.pr.drop (k + 1)) := by
                have := HST.out
                rw [HTT.out, hr, if_pos rfl] at this
                exact HRK.out.trans this
              have HR2 := Lib.hid hr2
              clear hr hr2
              go_wp2_with fail
              go_roundw
              case rel => exact ⟨k + 1, by rw [HL.out]; omega, by go_num, HR2.out, HBk.out.trans (HBj.out.mono HBk.out.size)⟩
              case measure => simp [intOf]; omega
      · obtain rfl : k = pn := by omega
        have hr : R = 0 := by
          rw [HRK.out, ← HL.out, List.drop_length]
          rfl
        subst hr
        go_wp2
        go_ret
        exact ⟨rfl, B1.out.trans (HBk.out.mono B1.out.size)⟩

set_option maxHeartbeats 2000000 in
theorem checksubs_any {w : World} {B : Nat} {c : Cfg} {pa : Option Addr} {pn : Nat} {sa : Option Addr} {sn : Nat} (h : Lists w B c pa pn sa sn) (pc sc : Nat) (hl : 1 ≤ c.le) (hl' : c.le ≤ 64) (hp : 1 ≤ pn) (hp' : pn ≤ 32) :
    Calls Tryz.prog 32 #[cv c pa pn pc sa sn sc] w (Returns (subsR c) w) := by
  have hlen := h.su.1
  have hmax := h.su.2.1
  unfold maxLen at hmax
  obtain ⟨R, hR⟩ : ∃ R, subsR c = R := ⟨_, rfl⟩
  rw [hR]
  unfold subsR at hR
  rw [hlen, h.pr.1] at hR
  have H1 := Lib.hid (h.alloc (.cells (cc c pa pn pc sa sn sc) 30))
  have X1 := Lib.hid (Blk.made w 30 (cc c pa pn pc sa sn sc))
  have B1 := Lib.hid (below_one w (.cells (cc c pa pn pc sa sn sc) 30))
  have hs1 : w.heap.size < (w.alloc (.cells (cc c pa pn pc sa sn sc) 30)).heap.size := by simp
  by_cases hb : 64 < sn
  · rw [if_pos hb] at hR
    subst hR
    clear hlen
    go_enter Tryz.func32, Tryz.ntmps32
    go_wp2
    go_ret
    exact ⟨rfl, B1.out⟩
  · rw [if_neg hb] at hR
    have HR := Lib.hid hR
    have HL := Lib.hid hlen
    clear hR hlen
    go_enter Tryz.func32, Tryz.ntmps32
    go_wp2_with fail
    generalize w.alloc (.cells (cc c pa pn pc sa sn sc) 30) = W1 at *
    go_loopw [12] (fun i wr => SubR W1 pn c.le R c.su i wr) (fun i _ => sn - (intOf i).toNat)
    case atStart => exact ⟨0, by omega, rfl, HR.out.symm, Below.refl _ _⟩
    case round =>
      obtain ⟨k, hk, rfl, hrk, hb⟩ := hrel
      rw [HL.out] at hk
      have HRK := Lib.hid hrk
      have HBk := Lib.hid hb
      clear hrk hb
      by_cases hlt : k < sn
      · obtain ⟨x, o, u, v, rfl, he, hxB, hx, c0, c1, c2⟩ := (H1.out.below HBk.out).su.at_ hlt
        have HST := Lib.hid (chkSs_drop (n := pn) (le := c.le) he)
        have HB2 := Lib.hid (HBk.out.alloc HBk.out.size (.cells #[.int .i64 o, .int .i64 u, .int .i64 v] 87))
        obtain ⟨e0, e1, e2, e3, e4, e5, e6, e7, e8, e9, e10⟩ := eleven ((X1.out.below HBk.out).alloc (.cells #[.int .i64 o, .int .i64 u, .int .i64 v] 87))
        clear he e0 e2 e3 e4 e5 e6 e7 e8 e10
        cases ho : inB o 0 (pn - 1) with
        | false =>
          have hr2 : R = 3 := by
            have := HRK.out.trans HST.out
            rw [ho] at this
            exact this
          subst hr2
          have HO := Lib.hid ho
          clear ho
          go_wp2_with (go_at_call 35; refine (within_any _ _ _ _).mono ?_; rintro e w' ⟨rfl, rfl⟩; rw [HO.out])
          go_ret
          exact ⟨rfl, B1.out.trans (HB2.out.mono B1.out.size)⟩
        | true =>
          have HO := Lib.hid ho
          clear ho
          go_wp2_with fail
          refine (within_any _ _ _ _).mono ?_
          rintro e w' ⟨rfl, rfl⟩
          rw [HO.out]
          go_wp2_with fail
          refine (within_any _ _ _ _).mono ?_
          rintro e w' ⟨rfl, rfl⟩
          cases hu : inB u 0 (c.le - 1) with
          | false =>
            have hr2 : R = 1 := by
              have := HRK.out.trans HST.out
              unfold subOk at this
              rw [HO.out, hu] at this
              exact this
            subst hr2
            clear hu
            go_wp2
            go_ret
            exact ⟨rfl, B1.out.trans (HB2.out.mono B1.out.size)⟩
          | true =>
            have HU := Lib.hid hu
            clear hu
            go_wp2_with fail
            refine (within_any _ _ _ _).mono ?_
            rintro e w' ⟨rfl, rfl⟩
            cases hv : inB v 0 16777215 with
            | false =>
              have hr2 : R = 1 := by
                have := HRK.out.trans HST.out
                unfold subOk at this
                rw [HO.out, HU.out, hv] at this
                exact this
              subst hr2
              clear hv
              go_wp2
              go_ret
              exact ⟨rfl, B1.out.trans (HB2.out.mono B1.out.size)⟩
            | true =>
              have hr2 : R = chkSs pn c.le (c.su.drop (k + 1)) := by
                have := HRK.out.trans HST.out
                unfold subOk at this
                rw [HO.out, HU.out, hv] at this
                exact this
              have HR2 := Lib.hid hr2
              clear hr2 hv
              go_wp2_with fail
              go_roundw
              case rel => exact ⟨k + 1, by rw [HL.out]; omega, by go_num, HR2.out, HB2.out⟩
              case measure => simp [intOf]; omega
      · obtain rfl : k = sn := by omega
        have hr : R = 0 := by
          rw [HRK.out, ← HL.out, List.drop_length]
          rfl
        subst hr
        go_wp2
        go_ret
        exact ⟨rfl, B1.out.trans (HBk.out.mono B1.out.size)⟩

set_option maxHeartbeats 2000000 in
theorem check_any {w : World} {B : Nat} {c : Cfg} {pa : Option Addr} {pn : Nat} {sa : Option Addr} {sn : Nat} (h : Lists w B c pa pn sa sn) (pc sc : Nat) :
    Calls Tryz.prog 21 #[cv c pa pn pc sa sn sc] w (Returns (chk c) w) := by
  have HN := Lib.hid h.pr.1
  obtain ⟨R, hR⟩ : ∃ R, chk c = R := ⟨_, rfl⟩
  rw [hR]
  unfold chk at hR
  have H1 := Lib.hid (h.alloc (.cells (cc c pa pn pc sa sn sc) 30))
  have X1 := Lib.hid (Blk.made w 30 (cc c pa pn pc sa sn sc))
  have B1 := Lib.hid (below_one w (.cells (cc c pa pn pc sa sn sc) 30))
  have HR := Lib.hid hR
  clear hR h
  go_enter Tryz.func21, Tryz.ntmps21
  go_wp2_with fail
  generalize w.alloc (.cells (cc c pa pn pc sa sn sc) 30) = W1 at *
  refine (numbersfit_any c _ pn _ _ sn _ _).mono ?_
  rintro e w1 ⟨rfl, b1⟩
  have H2 := Lib.hid (H1.out.below b1)
  have X2 := Lib.hid (X1.out.below b1)
  have B2 := Lib.hid (B1.out.trans (b1.mono B1.out.size))
  clear b1
  cases hn : numsB c with
  | false =>
    have hr : R = 1 := by
      have := HR.out
      rw [hn] at this
      exact this.symm
    subst hr
    clear hn
    go_wp2
    go_ret
    exact ⟨rfl, B2.out⟩
  | true =>
    have hr := HR.out
    rw [hn, if_pos rfl] at hr
    have HR2 := Lib.hid hr
    obtain ⟨_, ⟨hl, hl'⟩, _⟩ := numsB_iff.1 hn
    obtain ⟨e0, e1, e2, e3, e4, e5, e6, e7, e8, e9, e10⟩ := eleven X2.out
    clear hn hr
    go_wp2_with fail
    refine (checkprogs_any H2.out _ _ hl hl').mono ?_
    rintro e w2 ⟨rfl, b2⟩
    have H3 := Lib.hid (H2.out.below b2)
    have X3 := Lib.hid (X2.out.below b2)
    have B3 := Lib.hid (B2.out.trans (b2.mono B2.out.size))
    clear b2 e0 e1 e2 e3 e4 e5 e6 e7 e8 e9 e10
    by_cases hp : progsR c = 0
    · have hr := HR2.out
      rw [if_pos hp] at hr
      have HR3 := Lib.hid hr
      have hq : 1 ≤ pn ∧ pn ≤ 32 := by
        unfold progsR at hp
        rw [HN.out] at hp
        cases hb : inB pn 1 32 with
        | false =>
          rw [hb] at hp
          simp at hp
        | true =>
          have := inB_iff.1 hb
          omega
      have HP := Lib.hid hp
      obtain ⟨e0, e1, e2, e3, e4, e5, e6, e7, e8, e9, e10⟩ := eleven X3.out
      rw [HP.out]
      clear hp hr
      go_wp2_with fail
      refine (checksubs_any H3.out _ _ hl hl' hq.1 hq.2).mono ?_
      rintro e w3 ⟨rfl, b3⟩
      have B4 := Lib.hid (B3.out.trans (b3.mono B3.out.size))
      rw [HR3.out]
      clear b3
      go_wp2
      go_ret
      exact ⟨rfl, B4.out⟩
    · have hr := HR2.out
      rw [if_neg hp] at hr
      rw [hr]
      rw [hr] at hp
      have hp' : (R == 0) = false := by simpa using hp
      have hp2 : (R != 0) = true := by simpa using hp
      clear hr
      go_wp2
      go_ret
      exact ⟨rfl, B3.out⟩
end Go.Proofs.YtgipddeldddbnaaGreat
