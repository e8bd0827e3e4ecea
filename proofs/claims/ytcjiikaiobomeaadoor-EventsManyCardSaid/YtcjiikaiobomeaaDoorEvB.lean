/-
  Package event: Valid.
-/
import Derived.Test.YtcjiikaiobomeaaDoorEvA
import Derived.LoopTactic
namespace Go.Proofs.YtcjiikaiobomeaaDoor
open Go Go.RowKit
set_option linter.unusedSimpArgs false

theorem index4_lit {x y : Value} (v : Value) (h : ∀ W : World, (Instr.index 40 y x).run Tryd.prog W = .ok v W) (W : World) : (Instr.index 40 y x).run Tryd.prog W = .ok v W := h W
theorem index_four (a b c d : Int) (k : Nat) (hk : k < 4) (W : World) : (Instr.index 40 (.agg #[.int .i64 a, .int .i64 b, .int .i64 c, .int .i64 d]) (.int .i64 (k : Int))).run Tryd.prog W = .ok (.int .i64 (([a, b, c, d] : List Int).getD k 0)) W := by
  match k, hk with
  | 0, _ => exact index4_lit _ (fun W => by kernel_rfl) W
  | 1, _ => exact index4_lit _ (fun W => by kernel_rfl) W
  | 2, _ => exact index4_lit _ (fun W => by kernel_rfl) W
  | 3, _ => exact index4_lit _ (fun W => by kernel_rfl) W
  | k + 4, h => omega
/-- What the loop of Valid knows. -/
def ValR (w : World) (g : Nat) (cs : Array Value) (e : Ev) (i : Value) (wr : World) : Prop :=
  ∃ k : Nat, k ≤ 4 ∧ i = .int .i64 (k : Int) ∧ (∀ j, j < k → inF (maskK e.kd) j ((numsE e).getD j 0) = true) ∧ Blk wr g 38 cs ∧ w.heap.size ≤ g ∧ Below w.heap.size w wr
theorem validB_of {e : Ev} (h0 : wordK e.kd ≠ []) (h : ∀ j, j < 4 → inF (maskK e.kd) j ((numsE e).getD j 0) = true) : validB e = true := by
  have a0 := h 0 (by omega)
  have a1 := h 1 (by omega)
  have a2 := h 2 (by omega)
  have a3 := h 3 (by omega)
  simp only [numsE, List.getD_cons_zero, List.getD_cons_succ] at a0 a1 a2 a3
  cases hw : wordK e.kd with
  | nil => exact absurd hw h0
  | cons x r => simp [validB, hw, a0, a1, a2, a3]
theorem validB_not {e : Ev} {j : Nat} (hj : j < 4) (h : inF (maskK e.kd) j ((numsE e).getD j 0) = false) : validB e = false := by
  cases hv : validB e with
  | false => rfl
  | true =>
    obtain ⟨h0, h1, h2, h3⟩ := validB_in hv
    match j, hj with
    | 0, _ => exact absurd h0 (by simpa [numsE] using h)
    | 1, _ => exact absurd h1 (by simpa [numsE] using h)
    | 2, _ => exact absurd h2 (by simpa [numsE] using h)
    | 3, _ => exact absurd h3 (by simpa [numsE] using h)
    | j + 4, hj => omega
theorem validB_nil {e : Ev} (h : wordK e.kd = []) : validB e = false := by simp [validB, h]
theorem str_nil (l : List UInt8) : ((⟨l.toArray⟩ : ByteArray).data.toList = []) = (l = []) := by simp
theorem inF_yes {m i : Nat} {v : Int} (hh : hasF m i = true) : inF m i v = (decide (0 ≤ v) && decide (v ≤ 256)) := by simp [inF, hh]
theorem inF_no {m i : Nat} {v : Int} (hh : hasF m i = false) : inF m i v = (decide (0 ≤ v) && decide (v ≤ 0)) := by simp [inF, hh]

set_option maxRecDepth 100000 in
set_option maxHeartbeats 4000000 in
theorem valid_any (e : Ev) (w : World) : Calls Tryd.prog 6 #[.agg (evV e)] w fun en w' => en = .returned (.bool (validB e)) ∧ Below w.heap.size w w' := by
  have hB := Lib.hid (below_one w (.cells (evV e) 23))
  have hE := Lib.hid (Blk.made w 23 (evV e))
  have e0 := hE.out.at_ 0
  have hml := maskK_lt e.kd
  go_enter Tryd.func6, Tryd.ntmps6
  go_upto_region 1 with fail
  generalize w.alloc (.cells (evV e) 23) = W at *
  go_wp2_with fail
  (with_reducible refine (lineOf_any _ _).mono ?_)
  rintro en W1 ⟨rfl, hb⟩
  have hB1 := Lib.hid (hB.out.trans (hb.mono hB.out.size))
  have hE1 := Lib.hid (hE.out.of_same (hb.block _ hE.out.lt))
  have HW := Lib.hid (show wordK e.kd = wordK e.kd from rfl)
  clear hb hE hB e0
  unfold lineV
  have hL := Lib.hid (Blk.made W1 38 #[.string ⟨(wordK e.kd).toArray⟩, .int .i64 (maskK e.kd : Int)])
  have hB2 := Lib.hid (hB1.out.trans ((below_one W1 (.cells #[.string ⟨(wordK e.kd).toArray⟩, .int .i64 (maskK e.kd : Int)] 38)).mono hB1.out.size))
  have hE2 := Lib.hid (hE1.out.alloc (.cells #[.string ⟨(wordK e.kd).toArray⟩, .int .i64 (maskK e.kd : Int)] 38))
  go_upto_region 2 with fail
  have e1 := hE2.out.at_ 0
  have e2 := hE2.out.at_ 1
  have e3 := hE2.out.at_ 2
  have e4 := hE2.out.at_ 3
  have e5 := hE2.out.at_ 4
  have l0 := hL.out.at_ 0
  have l1 := hL.out.at_ 1
  have hg : w.heap.size ≤ W1.heap.size := hB1.out.size
  generalize W1.alloc (.cells #[.string ⟨(wordK e.kd).toArray⟩, .int .i64 (maskK e.kd : Int)] 38) = W2 at *
  generalize W1.heap.size = g at *
  clear hE1 hB1
  by_cases hnil : wordK e.kd = []
  · rw [hnil] at l0
    have hv := Lib.hid (validB_nil hnil)
    clear hnil
    go_wp2_with fail
    go_ret
    exact ⟨by rw [hv.out]; rfl, hB2.out⟩
  · obtain ⟨x, r, hxr⟩ : ∃ x r, wordK e.kd = x :: r := by
      cases h : wordK e.kd with
      | nil => exact absurd h hnil
      | cons x r => exact ⟨x, r, rfl⟩
    have HN := Lib.hid hnil
    rw [hxr] at l0
    have hL' : Hid (Blk W2 g 38 #[.string ⟨(x :: r).toArray⟩, .int .i64 (maskK e.kd : Int)]) := by have := hL.out; rw [hxr] at this; exact Lib.hid this
    clear hL hnil hxr HW
    have i1 := index_four e.wk e.tk e.ot e.lv
    go_upto_region 4 with fail
    clear l0 l1
    go_wp2_with fail
    (with_reducible refine (numbers_any _ _).mono ?_)
    rintro en W3 ⟨rfl, hb⟩
    have hB3 := Lib.hid (hB2.out.trans (hb.mono hB2.out.size))
    have hL3 := Lib.hid (hL'.out.of_same (hb.block _ hL'.out.lt))
    clear hb e1 e2 e3 e4 e5 hE2 hL' hB2
    go_wp2_with fail
    go_loopw [15] (fun i wr => ValR w g #[.string ⟨(x :: r).toArray⟩, .int .i64 (maskK e.kd : Int)] e i wr) (fun i _ => 4 - (intOf i).toNat)
    case atStart => exact ⟨0, by omega, rfl, fun j hj => absurd hj (by omega), hL3.out, hg, hB3.out⟩
    case round =>
      obtain ⟨k, hk, rfl, hall, hLr, _, hBr⟩ := hrel
      have HA := Lib.hid hall
      have HL := Lib.hid hLr
      have HB := Lib.hid hBr
      clear hall hLr hBr hL3 hB3
      by_cases hlt : k < 4
      · have l0 := HL.out.at_ 0
        have l1 := HL.out.at_ 1
        have hi := fun (W : World) => i1 k hlt W
        have hv : ([e.wk, e.tk, e.ot, e.lv] : List Int).getD k 0 = (numsE e).getD k 0 := rfl
        rw [hv] at hi
        clear hv i1
        have hin : ∀ b, inF (maskK e.kd) k ((numsE e).getD k 0) = b → (b = true → ∀ j, j < k + 1 → inF (maskK e.kd) j ((numsE e).getD j 0) = true) := by
          intro b hb hbt j hj
          by_cases hjk : j = k
          · subst hjk
            rw [hb, hbt]
          · exact HA.out j (by omega)
        have HI := Lib.hid hin
        clear hin
        have HF := Lib.hid (fun h => validB_not (e := e) hlt h)
        generalize hvv : (numsE e).getD k 0 = v at *
        clear hvv
        go_upto_region 8 with fail
        go_wp2_with fail
        (with_reducible refine (contains_any _ _ k hml hlt _).mono ?_)
        rintro en W4 ⟨rfl, hb⟩
        have HB4 := Lib.hid (HB.out.trans (hb.mono HB.out.size))
        have HL4 := Lib.hid (HL.out.of_same (hb.block _ HL.out.lt))
        clear hb l0 l1 HL HB
        cases hh : hasF (maskK e.kd) k with
        | true =>
          have hiv := inF_yes (v := v) hh
          have HH := Lib.hid hiv
          clear hh hiv
          by_cases h1 : v < 0
          · go_wp2_with fail
            go_ret
            exact ⟨by rw [HF.out (by rw [HH.out]; simp; omega)]; rfl, HB4.out⟩
          · by_cases h2 : 256 < v
            · go_wp2_with fail
              go_ret
              exact ⟨by rw [HF.out (by rw [HH.out]; simp; omega)]; rfl, HB4.out⟩
            · go_wp2_with fail
              go_roundw
              case rel => exact ⟨k + 1, by omega, by go_num, HI.out true (by rw [HH.out]; simp; omega) rfl, HL4.out, hg, HB4.out⟩
              case measure => simp [intOf]; omega
        | false =>
          have hiv := inF_no (v := v) hh
          have HH := Lib.hid hiv
          clear hh hiv
          by_cases h1 : v < 0
          · go_wp2_with fail
            go_ret
            exact ⟨by rw [HF.out (by rw [HH.out]; simp; omega)]; rfl, HB4.out⟩
          · by_cases h2 : 0 < v
            · go_wp2_with fail
              go_ret
              exact ⟨by rw [HF.out (by rw [HH.out]; simp; omega)]; rfl, HB4.out⟩
            · go_wp2_with fail
              go_roundw
              case rel => exact ⟨k + 1, by omega, by go_num, HI.out true (by rw [HH.out]; simp; omega) rfl, HL4.out, hg, HB4.out⟩
              case measure => simp [intOf]; omega
      · have h4 : k = 4 := by omega
        have HV := Lib.hid (validB_of HN.out (fun j hj => HA.out j (by omega)))
        subst h4
        go_wp2_with fail
        go_ret
        exact ⟨by rw [HV.out]; rfl, HB.out⟩
end Go.Proofs.YtcjiikaiobomeaaDoor
