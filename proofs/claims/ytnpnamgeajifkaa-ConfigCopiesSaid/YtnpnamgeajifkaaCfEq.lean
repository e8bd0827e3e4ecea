/-
  Contracts of the comparisons: slices.Equal, slices.EqualFunc, numbers, Equal.
-/
import Derived.Test.YtnpnamgeajifkaaCfOwn
namespace Go.Proofs.Ytnpnamgeajifkaa
open Go Go.RowKit

/-- The two lists agree from place k on (they have one length). -/
def EqR (w : World) (t : Bool) (l l' : List T3) (i : Value) (wr : World) : Prop :=
  ∃ k : Nat, k ≤ l.length ∧ i = .int .i64 k ∧ t = decide (l.drop k = l'.drop k) ∧ Below w.heap.size w wr
theorem drop_step {α : Type} {l l' : List α} {k : Nat} {x y : α} (h : l[k]? = some x) (h' : l'[k]? = some y) : l.drop k = l'.drop k ↔ x = y ∧ l.drop (k + 1) = l'.drop (k + 1) := by
  obtain ⟨hk, he⟩ := List.getElem?_eq_some_iff.1 h
  obtain ⟨hk', he'⟩ := List.getElem?_eq_some_iff.1 h'
  rw [List.drop_eq_getElem_cons hk, List.drop_eq_getElem_cons hk', he, he']
  simp
theorem beq_of {x y : Int} (h : x ≠ y) : (x == y) = false := by simpa using h

def EqGives (b : Bool) (w : World) (e : Ending) (w' : World) : Prop := e = .returned (.bool b) ∧ Below w.heap.size w w'

set_option maxRecDepth 20000 in
set_option maxHeartbeats 2000000 in
theorem eqi_any {w : World} {B B' : Nat} {a a' : Option Addr} {n n' : Nat} {l l' : List T3} (h : Tris w B a n l) (h' : Tris w B' a' n' l') (c c' : Nat) :
    Calls Try.prog 40 #[.slice a n c, .slice a' n' c'] w (EqGives (decide (l = l')) w) := by
  have hlen := h.1
  have hlen' := h'.1
  have hmax := h.2.1
  have hmax' := h'.2.1
  unfold maxLen at hmax hmax'
  obtain ⟨t, ht⟩ : ∃ t, decide (l = l') = t := ⟨_, rfl⟩
  rw [ht]
  have HL := Lib.hid hlen
  have HL' := Lib.hid hlen'
  have HT := Lib.hid h
  have HT' := Lib.hid h'
  have HTT := Lib.hid ht
  clear hlen hlen' h h' ht
  by_cases hn : n = n'
  · subst hn
    go_enter Try.func40, Try.ntmps40
    go_wp2_with fail
    go_loopw [13] (fun i wr => EqR w t l l' i wr) (fun i _ => n - (intOf i).toNat)
    case atStart => exact ⟨0, by omega, rfl, HTT.out.symm, Below.refl _ _⟩
    case round =>
      obtain ⟨k, hk, rfl, hr, hb⟩ := hrel
      rw [HL.out] at hk
      have HR := Lib.hid hr
      have HB := Lib.hid hb
      clear hr hb
      by_cases hlt : k < n
      · obtain ⟨x, o, p, q, rfl, he, _, hx, c0, c1, c2⟩ := (HT.out.below HB.out).at_ hlt
        obtain ⟨y, o', p', q', rfl, he', _, hy, d0, d1, d2⟩ := (HT'.out.below HB.out).at_ hlt
        have HS := Lib.hid (drop_step he he')
        have i0 : (0 : Int) ≤ (k : Int) := by omega
        have i1 : (k : Int) < (n : Int) := by omega
        clear he he'
        by_cases hxy : o = o' ∧ p = p' ∧ q = q'
        · obtain ⟨rfl, rfl, rfl⟩ := hxy
          have hr2 : t = decide (l.drop (k + 1) = l'.drop (k + 1)) := by
            rw [HR.out]
            exact decide_eq_decide.2 (HS.out.trans ⟨fun h => h.2, fun h => ⟨rfl, h⟩⟩)
          have HR2 := Lib.hid hr2
          clear hr2
          go_wp2_with fail
          go_region
          go_wp2_with fail
          go_roundw
          case rel => exact ⟨k + 1, by rw [HL.out]; omega, by go_num, HR2.out, below_drew HB.out⟩
          case measure => simp [intOf]; omega
        · have hr2 : t = false := by
            rw [HR.out]
            refine decide_eq_false (fun hh => hxy ?_)
            have := (HS.out.1 hh).1
            simpa using this
          subst hr2
          by_cases ho : o = o'
          · subst ho
            by_cases hp : p = p'
            · subst hp
              have hq : q ≠ q' := fun e => hxy ⟨rfl, rfl, e⟩
              have hqb := beq_of hq
              clear hxy hq
              go_wp2_with fail
              go_region
              go_wp2
              go_ret
              exact ⟨rfl, below_drew HB.out⟩
            · have hpb := beq_of hp
              clear hxy hp
              go_wp2_with fail
              go_region
              go_wp2
              go_ret
              exact ⟨rfl, below_drew HB.out⟩
          · have hob := beq_of ho
            clear hxy ho
            go_wp2_with fail
            go_region
            go_wp2
            go_ret
            exact ⟨rfl, below_drew HB.out⟩
      · obtain rfl : k = n := by omega
        have hr : t = true := by
          rw [HR.out, List.drop_eq_nil_of_le (by rw [HL.out]; omega), List.drop_eq_nil_of_le (by rw [HL'.out]; omega)]
          rfl
        subst hr
        go_wp2
        go_ret
        exact ⟨rfl, HB.out⟩
  · have ht2 : t = false := by
      rw [← HTT.out]
      refine decide_eq_false (fun e => hn ?_)
      rw [← HL.out, ← HL'.out, e]
    subst ht2
    have hne : ((n : Int) != (n' : Int)) = true := by
      have : ¬ (n : Int) = (n' : Int) := by omega
      simpa using this
    go_enter Try.func40, Try.ntmps40
    go_wp2
    go_ret
    exact ⟨rfl, Below.refl _ _⟩

set_option maxRecDepth 20000 in
set_option maxHeartbeats 2000000 in
theorem eqs_any {w : World} {B B' : Nat} {a a' : Option Addr} {n n' : Nat} {l l' : List T3} (h : Tris w B a n l) (h' : Tris w B' a' n' l') (c c' : Nat) :
    Calls Try.prog 41 #[.slice a n c, .slice a' n' c'] w (EqGives (decide (l = l')) w) := by
  have hlen := h.1
  have hlen' := h'.1
  have hmax := h.2.1
  have hmax' := h'.2.1
  unfold maxLen at hmax hmax'
  obtain ⟨t, ht⟩ : ∃ t, decide (l = l') = t := ⟨_, rfl⟩
  rw [ht]
  have HL := Lib.hid hlen
  have HL' := Lib.hid hlen'
  have HT := Lib.hid h
  have HT' := Lib.hid h'
  have HTT := Lib.hid ht
  clear hlen hlen' h h' ht
  by_cases hn : n = n'
  · subst hn
    go_enter Try.func41, Try.ntmps41
    go_wp2_with fail
    go_loopw [13] (fun i wr => EqR w t l l' i wr) (fun i _ => n - (intOf i).toNat)
    case atStart => exact ⟨0, by omega, rfl, HTT.out.symm, Below.refl _ _⟩
    case round =>
      obtain ⟨k, hk, rfl, hr, hb⟩ := hrel
      rw [HL.out] at hk
      have HR := Lib.hid hr
      have HB := Lib.hid hb
      clear hr hb
      by_cases hlt : k < n
      · obtain ⟨x, o, p, q, rfl, he, _, hx, c0, c1, c2⟩ := (HT.out.below HB.out).at_ hlt
        obtain ⟨y, o', p', q', rfl, he', _, hy, d0, d1, d2⟩ := (HT'.out.below HB.out).at_ hlt
        have HS := Lib.hid (drop_step he he')
        have i0 : (0 : Int) ≤ (k : Int) := by omega
        have i1 : (k : Int) < (n : Int) := by omega
        clear he he'
        by_cases hxy : o = o' ∧ p = p' ∧ q = q'
        · obtain ⟨rfl, rfl, rfl⟩ := hxy
          have hr2 : t = decide (l.drop (k + 1) = l'.drop (k + 1)) := by
            rw [HR.out]
            exact decide_eq_decide.2 (HS.out.trans ⟨fun h => h.2, fun h => ⟨rfl, h⟩⟩)
          have HR2 := Lib.hid hr2
          clear hr2
          go_wp2_with fail
          go_region
          go_wp2_with fail
          go_roundw
          case rel => exact ⟨k + 1, by rw [HL.out]; omega, by go_num, HR2.out, below_drew HB.out⟩
          case measure => simp [intOf]; omega
        · have hr2 : t = false := by
            rw [HR.out]
            refine decide_eq_false (fun hh => hxy ?_)
            have := (HS.out.1 hh).1
            simpa using this
          subst hr2
          by_cases ho : o = o'
          · subst ho
            by_cases hp : p = p'
            · subst hp
              have hq : q ≠ q' := fun e => hxy ⟨rfl, rfl, e⟩
              have hqb := beq_of hq
              clear hxy hq
              go_wp2_with fail
              go_region
              go_wp2
              go_ret
              exact ⟨rfl, below_drew HB.out⟩
            · have hpb := beq_of hp
              clear hxy hp
              go_wp2_with fail
              go_region
              go_wp2
              go_ret
              exact ⟨rfl, below_drew HB.out⟩
          · have hob := beq_of ho
            clear hxy ho
            go_wp2_with fail
            go_region
            go_wp2
            go_ret
            exact ⟨rfl, below_drew HB.out⟩
      · obtain rfl : k = n := by omega
        have hr : t = true := by
          rw [HR.out, List.drop_eq_nil_of_le (by rw [HL.out]; omega), List.drop_eq_nil_of_le (by rw [HL'.out]; omega)]
          rfl
        subst hr
        go_wp2
        go_ret
        exact ⟨rfl, HB.out⟩
  · have ht2 : t = false := by
      rw [← HTT.out]
      refine decide_eq_false (fun e => hn ?_)
      rw [← HL.out, ← HL'.out, e]
    subst ht2
    have hne : ((n : Int) != (n' : Int)) = true := by
      have : ¬ (n : Int) = (n' : Int) := by omega
      simpa using this
    go_enter Try.func41, Try.ntmps41
    go_wp2
    go_ret
    exact ⟨rfl, Below.refl _ _⟩
end Go.Proofs.Ytnpnamgeajifkaa
