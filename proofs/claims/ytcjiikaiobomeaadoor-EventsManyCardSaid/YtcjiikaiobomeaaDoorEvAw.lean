/-
  The sanity check of the statements about events.
-/
import Derived.Test.YtcjiikaiobomeaaDoorEvH
namespace Go.Proofs.YtcjiikaiobomeaaDoor
open Go Go.RowKit
set_option linter.unusedSimpArgs false

/-- What a call gives that makes memory alone. -/
def Gives (v : Value) (w : World) (e : Ending) (w' : World) : Prop := e = .returned v ∧ Below w.heap.size w w'
theorem itoa_digit (k : Nat) (h : k < 10) : Lib.itoa (k : Int) = [UInt8.ofNat (48 + k)] := by
  rw [Lib.itoa, if_neg (by omega), Int.toNat_natCast, Lib.decDigits, dif_pos h]
theorem fmt_awake : formatR [⟨5, 0, 3, 0, 0⟩] = ([115, 116, 97, 114, 116, 32, 48, 32, 51, 10], 0) := by
  have h0 : Lib.itoa 0 = [48] := itoa_digit 0 (by omega)
  have h3 : Lib.itoa 3 = [51] := itoa_digit 3 (by omega)
  have hw : wordK 5 = [115, 116, 97, 114, 116] := rfl
  have hm : maskK 5 = 3 := rfl
  have f0 : hasF 3 0 = true := rfl
  have f1 : hasF 3 1 = true := rfl
  have f2 : hasF 3 2 = false := rfl
  have f3 : hasF 3 3 = false := rfl
  have hv : validB ⟨5, 0, 3, 0, 0⟩ = true := by decide
  simp [formatR, hv, textB, lineB, fieldsUp, hw, hm, f0, f1, f2, f3, numsE, h0, h3]
theorem parse_awake : parseR [112, 97, 114, 107, 32, 49] = ([], 1, 4) := by
  unfold parseR
  rw [if_neg (by rw [mxS_eq]; simp), parseG_bad (by simp) (.inl (by decide))]
  rfl
theorem inE_one (w : World) (e : Ev) : InE (w.alloc (.cells (evV e) 23)) (some ⟨w.heap.size, 0, none⟩) [e] := by
  refine ⟨by unfold maxLen; simp, fun i e' hi => ?_⟩
  have hB := Blk.made w 23 (evV e)
  match i, hi with
  | 0, hi =>
    simp only [List.getElem?_cons_zero, Option.some.injEq] at hi
    subst hi
    refine ⟨_, rfl, hB.lt, fun j hj => ?_⟩
    have : (⟨w.heap.size, 0, none⟩ : Addr).add (0 * 5 + j) = ⟨w.heap.size, j, none⟩ := by
      unfold Addr.add
      split <;> simp_all
    rw [this]
    exact hB.at_ j
  | i + 1, hi => simp at hi
set_option maxHeartbeats 4000000 in
theorem awake_any {w : World} (hlib : Libs w.heap.size w) : Calls Tryd.prog 5 #[] w (Gives (.bool true) w) := by
  have HLib := Lib.hid hlib
  have hB := Lib.hid (below_one w (.cells (evV ⟨5, 0, 3, 0, 0⟩) 23))
  have hI := Lib.hid (inE_one w ⟨5, 0, 3, 0, 0⟩)
  have HF := Lib.hid (show Calls Tryd.prog 9 #[.slice (some ⟨w.heap.size, 0, none⟩) 1 1] (w.alloc (.cells #[.int .i64 5, .int .i64 0, .int .i64 3, .int .i64 0, .int .i64 0] 23)) (Formatted [⟨5, 0, 3, 0, 0⟩] (w.alloc (.cells #[.int .i64 5, .int .i64 0, .int .i64 3, .int .i64 0, .int .i64 0] 23))) from format_any hI.out 1 ((hlib.on hB.out).up hB.out.size))
  clear hlib
  go_enter Tryd.func5, Tryd.ntmps5
  go_wp2_with fail
  (with_reducible refine HF.out.mono ?_)
  rintro en W1 ⟨rfl, hb⟩
  rw [fmt_awake]
  have hB1 := Lib.hid (hB.out.trans (hb.mono hB.out.size))
  clear hb hB hI
  go_wp2_with fail
  (with_reducible refine (parse_any ((HLib.out.on hB1.out).up hB1.out.size) [112, 97, 114, 107, 32, 49]).mono ?_)
  rintro en W2 ⟨v, rfl, _, hb⟩
  rw [parse_awake]
  have hB2 := Lib.hid (hB1.out.trans (hb.mono hB1.out.size))
  clear hb hB1
  go_wp2
  go_ret
  exact ⟨rfl, hB2.out⟩
end Go.Proofs.YtcjiikaiobomeaaDoor
