/-
  Contracts of slices.EqualFunc and of numbers.
-/
import Derived.Test.YtnpnamgeajifkaaCfEq
namespace Go.Proofs.Ytnpnamgeajifkaa
open Go Go.RowKit

def EqPR (w : World) (t : Bool) (l l' : List (List T3)) (i : Value) (wr : World) : Prop :=
  ∃ k : Nat, k ≤ l.length ∧ i = .int .i64 k ∧ t = decide (l.drop k = l'.drop k) ∧ Below w.heap.size w wr

set_option maxRecDepth 20000 in
set_option maxHeartbeats 2000000 in
theorem eqf_any {w : World} {B B' : Nat} {a a' : Option Addr} {n n' : Nat} {l l' : List (List T3)} (h : Prgs w B a n l) (h' : Prgs w B' a' n' l') (c c' : Nat) :
    Calls Try.prog 39 #[.slice a n c, .slice a' n' c', .func (.func 40) #[] #[]] w (EqGives (decide (l = l')) w) := by
  have hlen := h.1
  have hlen' := h'.1
  have hmax := h.2.1
  have hmax' := h'.2.1
  unfold maxLen at hmax hmax'
  obtain ⟨t, ht⟩ : ∃ t, decide (l = l') = t := ⟨_, rfl⟩
  rw [ht]
  have HL := Lib.hid hlen
  have HL' := Lib.hid hlen'
  have HT := Lib.hid h
  have HT' := Lib.hid h'
  have HTT := Lib.hid ht
  clear hlen hlen' h h' ht
  by_cases hn : n = n'
  · subst hn
    go_enter Try.func39, Try.ntmps39
    go_wp2_with fail
    go_loopw [17] (fun i wr => EqPR w t l l' i wr) (fun i _ => n - (intOf i).toNat)
    case atStart => exact ⟨0, by omega, rfl, HTT.out.symm, Below.refl _ _⟩
    case round =>
      obtain ⟨k, hk, rfl, hr, hb⟩ := hrel
      rw [HL.out] at hk
      have HR := Lib.hid hr
      have HB := Lib.hid hb
      clear hr hb
      by_cases hlt : k < n
      · obtain ⟨x, b, m, cp, p, rfl, he, _, hx, c0, ht⟩ := (HT.out.below HB.out).at_ hlt
        obtain ⟨y, b', m', cp', p', rfl, he', _, hy, d0, ht'⟩ := (HT'.out.below HB.out).at_ hlt
        have HS := Lib.hid (drop_step he he')
        have HP := Lib.hid ht
        have HP' := Lib.hid ht'
        clear he he' ht ht'
        go_wp2_with fail
        refine (eqi_any HP.out HP'.out _ _).mono ?_
        rintro e w1 ⟨rfl, hb1⟩
        have HB1 := Lib.hid (HB.out.trans (hb1.mono HB.out.size))
        clear hb1 c0 d0
        by_cases hxy : p = p'
        · have hr2 : t = decide (l.drop (k + 1) = l'.drop (k + 1)) := by
            rw [HR.out]
            exact decide_eq_decide.2 (HS.out.trans ⟨fun h => h.2, fun h => ⟨hxy, h⟩⟩)
          have HR2 := Lib.hid hr2
          rw [decide_eq_true hxy]
          clear hr2 hxy
          go_wp2_with fail
          go_roundw
          case rel => exact ⟨k + 1, by rw [HL.out]; omega, by go_num, HR2.out, HB1.out⟩
          case measure => simp [intOf]; omega
        · have hr2 : t = false := by
            rw [HR.out]
            exact decide_eq_false (fun hh => hxy (HS.out.1 hh).1)
          subst hr2
          rw [decide_eq_false hxy]
          clear hxy
          go_wp2
          go_ret
          exact ⟨rfl, HB1.out⟩
      · obtain rfl : k = n := by omega
        have hr : t = true := by
          rw [HR.out, List.drop_eq_nil_of_le (by rw [HL.out]; omega), List.drop_eq_nil_of_le (by rw [HL'.out]; omega)]
          rfl
        subst hr
        go_wp2
        go_ret
        exact ⟨rfl, HB.out⟩
  · have ht2 : t = false := by
      rw [← HTT.out]
      refine decide_eq_false (fun e => hn ?_)
      rw [← HL.out, ← HL'.out, e]
    subst ht2
    have hne : ((n : Int) != (n' : Int)) = true := by
      have : ¬ (n : Int) = (n' : Int) := by omega
      simpa using this
    go_enter Try.func39, Try.ntmps39
    go_wp2
    go_ret
    exact ⟨rfl, Below.refl _ _⟩

abbrev arr9 (c : Cfg) : Value := .agg #[.int .i64 c.wo, .int .i64 c.le, .int .i64 c.cl, .int .i64 c.ta, .int .i64 c.de, .int .i64 c.he, .int .i64 c.ba, .int .i64 c.ag, .int .i64 c.pa]
set_option maxRecDepth 20000 in
set_option maxHeartbeats 2000000 in
theorem nums_any (c : Cfg) (pa : Option Addr) (pn pc : Nat) (sa : Option Addr) (sn sc : Nat) (w : World) :
    Calls Try.prog 38 #[cv c pa pn pc sa sn sc] w fun e w' => e = .returned (arr9 c) ∧ Below w.heap.size w w' := by
  have B0 : ∀ o1 o2, Below w.heap.size w ((w.alloc o1).alloc o2) := fun o1 o2 => (below_one w o1).alloc (by simp) o2
  have HB := Lib.hid B0
  clear B0
  go_enter Try.func38, Try.ntmps38
  go_wp2
  exact bodyPost_ret (v := arr9 c) (by simp [results, Try.results38, go_sem]) rfl ⟨rfl, HB.out _ _⟩
end Go.Proofs.Ytnpnamgeajifkaa
