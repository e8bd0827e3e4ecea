/-
  The reference's Ints: are two lists of numbers equal?
-/
import Derived.Test.YtpmdmeolehabjaaInts
import Derived.LoopTactic
import Derived.Deep.QuietTactic
import Derived.BigQuiet
import Derived.Lib.Hide
namespace Go.Proofs.Ytpmdmeolehabjaa
open Go Go.RowKit

theorem InInts.drewN {w : World} {a : Option Addr} {n : Nat} {zs : List Int} (h : InInts w a n zs) (d : Nat) : InInts (w.drewN d) a n zs := h

theorem take_ne {zs ys : List Int} {j : Nat} (h : zs.getD j 0 ≠ ys.getD j 0) : zs ≠ ys := by
  intro e
  rw [e] at h
  exact h rfl
theorem take_more {zs ys : List Int} {j : Nat} (h1 : j < zs.length) (h2 : j < ys.length) (ht : zs.take j = ys.take j) (h : zs.getD j 0 = ys.getD j 0) : zs.take (j + 1) = ys.take (j + 1) := by
  rw [List.take_add_one, List.take_add_one, ht]
  rw [List.getD_eq_getElem?_getD, List.getD_eq_getElem?_getD, List.getElem?_eq_getElem h1, List.getElem?_eq_getElem h2] at h
  rw [List.getElem?_eq_getElem h1, List.getElem?_eq_getElem h2]
  simp only [Option.getD_some] at h
  rw [h]

/-- What Ints gives. -/
def IntsR (zs ys : List Int) (w : World) (e : Ending) (w' : World) : Prop := e = .returned (.bool (decide (zs = ys))) ∧ ∃ d, w' = w.drewN d

set_option maxRecDepth 100000 in
set_option maxHeartbeats 1000000 in
theorem rints_any {w : World} {a b : Option Addr} {n m : Nat} {zs ys : List Int} (h : InInts w a n zs) (h' : InInts w b m ys) (c c' : Nat) :
    Calls Try.prog 23 #[.slice a n c, .slice b m c'] w (IntsR zs ys w) := by
  have hmax := h.2.1
  unfold maxLen at hmax
  by_cases hnm : n = m
  · subst hnm
    have H := Lib.hid h
    have H' := Lib.hid h'
    have HL := Lib.hid (And.intro h.1 h'.1)
    clear h h'
    go_enter Try.func23, Try.ntmps23
    go_wp2_with fail
    go_loopw [5] (fun i wr => ∃ (j d : Nat), j ≤ n ∧ i = .int .i64 j ∧ wr = w.drewN d ∧ zs.take j = ys.take j) (fun i _ => n - (intOf i).toNat)
    case atStart => exact ⟨0, 0, by omega, rfl, rfl, by simp⟩
    case round =>
      obtain ⟨j, d, hj, rfl, rfl, ht⟩ := hrel
      have HT := Lib.hid ht
      clear ht
      by_cases hlt : j < n
      · obtain ⟨x, rfl, _, hx⟩ := H.out.2.2 j hlt
        obtain ⟨y, rfl, _, hy⟩ := H'.out.2.2 j hlt
        have HZ := Lib.hid (show zs.getD j 0 = zs.getD j 0 from rfl)
        obtain ⟨u, hu⟩ : ∃ u, zs.getD j 0 = u := ⟨_, rfl⟩
        obtain ⟨v, hv⟩ : ∃ v, ys.getD j 0 = v := ⟨_, rfl⟩
        rw [hu] at hx
        rw [hv] at hy
        have HU := Lib.hid hu
        have HV := Lib.hid hv
        clear hu hv HZ
        by_cases he : u = v
        · subst he
          go_wp2_with fail
          go_quiet (fail)
          go_wp2_with fail
          go_roundw
          case rel => exact ⟨j + 1, _, by omega, by go_num, rfl, take_more (by rw [HL.out.1]; exact hlt) (by rw [HL.out.2]; exact hlt) HT.out (HU.out.trans HV.out.symm)⟩
          case measure => simp [intOf]; omega
        · have he' : (u == v) = false := by simpa using he
          go_wp2_with fail
          go_quiet (fail)
          go_wp2
          go_ret
          exact ⟨congrArg (fun b => Ending.returned (Value.bool b)) (decide_eq_false (take_ne (by rw [HU.out, HV.out]; exact he))).symm, _, World.drewN_drewN _ _ _⟩
      · obtain rfl : j = n := by omega
        go_wp2
        go_ret
        have ht := HT.out
        rw [List.take_of_length_le (by rw [HL.out.1]; exact Nat.le_refl _), List.take_of_length_le (by rw [HL.out.2]; exact Nat.le_refl _)] at ht
        exact ⟨congrArg (fun b => Ending.returned (Value.bool b)) (decide_eq_true ht).symm, _, rfl⟩
  · have hd : ((n : Int) == (m : Int)) = false := by simp; omega
    have hne : zs ≠ ys := by
      intro e
      apply hnm
      rw [← h.1, ← h'.1, e]
    have HNE := Lib.hid hne
    clear h h' hne
    go_enter Try.func23, Try.ntmps23
    go_wp2
    go_ret
    exact ⟨congrArg (fun b => Ending.returned (Value.bool b)) (decide_eq_false HNE.out).symm, 0, rfl⟩
end Go.Proofs.Ytpmdmeolehabjaa
