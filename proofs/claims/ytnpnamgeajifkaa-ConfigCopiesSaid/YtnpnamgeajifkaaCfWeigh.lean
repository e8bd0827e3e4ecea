/-
  Contracts of Machines, and of Weight at the example's program.
-/
import Derived.Test.YtnpnamgeajifkaaCfOwn
namespace Go.Proofs.Ytnpnamgeajifkaa
open Go Go.RowKit

theorem machines_any (c : Cfg) (pa : Option Addr) (pn pc : Nat) (sa : Option Addr) (sn sc : Nat) (h0 : 0 ≤ c.wo) (h1 : c.wo ≤ 1000) (w : World) :
    Calls Try.prog 25 #[cv c pa pn pc sa sn sc] w fun e w' => e = .returned (.int .i64 (c.wo + 1)) ∧ Below w.heap.size w w' := by
  go_enter Try.func25, Try.ntmps25
  go_wp2
  go_ret
  exact ⟨rfl, below_one _ _⟩

/-- The weight of a program. -/
def wgt : List T3 → Int
  | [] => 0
  | x :: r => (if x.1 = 0 ∧ 0 < x.2.1 then x.2.1 else 1) + wgt r
def WgtR (w : World) (l : List T3) (s i : Value) (wr : World) : Prop :=
  ∃ k : Nat, k ≤ l.length ∧ i = .int .i64 k ∧ (∃ y : Int, s = .int .i64 y ∧ y + wgt (l.drop k) = wgt l ∧ 0 ≤ y ∧ y ≤ 1000 * k) ∧ Below w.heap.size w wr
theorem wgt_drop {l : List T3} {k : Nat} {x : T3} (h : l[k]? = some x) : wgt (l.drop k) = (if x.1 = 0 ∧ 0 < x.2.1 then x.2.1 else 1) + wgt (l.drop (k + 1)) := by
  obtain ⟨hk, he⟩ := List.getElem?_eq_some_iff.1 h
  rw [List.drop_eq_getElem_cons hk, he]
  rfl
set_option maxHeartbeats 1000000 in
theorem weight_any {w : World} {B : Nat} {a : Option Addr} {n : Nat} {l : List T3} (h : Tris w B a n l) (c : Nat) (hs : ∀ x ∈ l, x.2.1 ≤ 1000) (hn : n ≤ 1000) :
    Calls Try.prog 24 #[.slice a n c] w fun e w' => e = .returned (.int .i64 (wgt l)) ∧ Below w.heap.size w w' := by
  have HL := Lib.hid h.1
  have HT := Lib.hid h
  have HS := Lib.hid hs
  clear h hs
  go_enter Try.func24, Try.ntmps24
  go_wp2_with fail
  go_loopw [3, 8] (fun s i wr => WgtR w l s i wr) (fun _ i _ => n - (intOf i).toNat)
  case atStart => exact ⟨0, by omega, rfl, ⟨0, rfl, by simp, by omega, by omega⟩, Below.refl _ _⟩
  case round =>
    obtain ⟨k, hk, rfl, ⟨y, rfl, hy, hy0, hy1⟩, hb⟩ := hrel
    rw [HL.out] at hk
    have HY := Lib.hid hy
    have HB := Lib.hid hb
    clear hy hb
    by_cases hlt : k < n
    · obtain ⟨x, o, p, q, rfl, he, _, hx, c0, c1, c2⟩ := (HT.out.below HB.out).at_ hlt
      have HW := Lib.hid (show wgt (l.drop k) = (if o = 0 ∧ 0 < p then p else 1) + wgt (l.drop (k + 1)) from wgt_drop he)
      have hp : p ≤ 1000 := HS.out (o, p, q) (List.mem_of_getElem? he)
      have HB2 := Lib.hid (HB.out.alloc HB.out.size (.cells #[.int .i64 o, .int .i64 p, .int .i64 q] 47))
      clear he
      by_cases h0 : o = 0
      · by_cases hp0 : 0 < p
        · have hw : y + p + wgt (l.drop (k + 1)) = wgt l := by
            have h1 := HY.out
            rw [HW.out, if_pos ⟨h0, hp0⟩] at h1
            omega
          have HWW := Lib.hid hw
          subst h0
          clear hw
          go_wp2_with fail
          go_roundw
          case rel => exact ⟨k + 1, by rw [HL.out]; omega, by go_num, ⟨y + p, rfl, HWW.out, by omega, by omega⟩, HB2.out⟩
          case measure => simp [intOf]; omega
        · have hw : y + 1 + wgt (l.drop (k + 1)) = wgt l := by
            have h1 := HY.out
            rw [HW.out, if_neg (fun e => hp0 e.2)] at h1
            omega
          have HWW := Lib.hid hw
          subst h0
          clear hw
          go_wp2_with fail
          go_roundw
          case rel => exact ⟨k + 1, by rw [HL.out]; omega, by go_num, ⟨y + 1, rfl, HWW.out, by omega, by omega⟩, HB2.out⟩
          case measure => simp [intOf]; omega
      · have hw : y + 1 + wgt (l.drop (k + 1)) = wgt l := by
          have h1 := HY.out
          rw [HW.out, if_neg (fun e => h0 e.1)] at h1
          omega
        have HWW := Lib.hid hw
        have hob : (o == 0) = false := by simpa using h0
        clear hw h0
        go_wp2_with fail
        go_roundw
        case rel => exact ⟨k + 1, by rw [HL.out]; omega, by go_num, ⟨y + 1, rfl, HWW.out, by omega, by omega⟩, HB2.out⟩
        case measure => simp [intOf]; omega
    · obtain rfl : k = n := by omega
      have hy : y = wgt l := by
        have h1 := HY.out
        rw [List.drop_eq_nil_of_le (by rw [HL.out]; omega)] at h1
        simpa [wgt] using h1
      have HYY := Lib.hid hy
      clear hy
      go_wp2
      go_ret
      exact ⟨by rw [← HYY.out]; rfl, HB.out⟩
end Go.Proofs.Ytnpnamgeajifkaa
