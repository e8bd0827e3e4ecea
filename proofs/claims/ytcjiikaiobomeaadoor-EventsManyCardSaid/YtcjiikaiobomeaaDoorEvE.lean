/-
  Slices of events that came in; package event's Format.
-/
import Derived.Test.YtcjiikaiobomeaaDoorEvC
import Derived.Lib.BufferRead
namespace Go.Proofs.YtcjiikaiobomeaaDoor
open Go Go.RowKit
set_option linter.unusedSimpArgs false

/-- The slice at a reads as the events es. -/
def InE (w : World) (a : Option Addr) (es : List Ev) : Prop := es.length ≤ maxLen ∧ ∀ i e, es[i]? = some e → ∃ x : Addr, a = some x ∧ x.block < w.heap.size ∧ ∀ j, j < 5 → w.cell? (x.add (i * 5 + j)) = (evV e)[j]?
theorem InE.below {w w' : World} {a : Option Addr} {es : List Ev} (h : InE w a es) (hb : Below w.heap.size w w') : InE w' a es :=
  ⟨h.1, fun i e hi => by
    obtain ⟨x, ha, hx, hc⟩ := h.2 i e hi
    exact ⟨x, ha, Nat.lt_of_lt_of_le hx hb.size, fun j hj => (hb.cell (by rw [block_add]; exact hx)).trans (hc j hj)⟩⟩
theorem InE.at_ {w : World} {a : Option Addr} {es : List Ev} (h : InE w a es) {i : Nat} {e : Ev} (hi : es[i]? = some e) :
    ∃ x : Addr, a = some x ∧ w.cell? (x.add (i * 5)) = some (.int .i64 e.kd) ∧ w.cell? ⟨(x.add (i * 5)).block, (x.add (i * 5)).off + 1, none⟩ = some (.int .i64 e.wk) ∧ w.cell? ⟨(x.add (i * 5)).block, (x.add (i * 5)).off + 2, none⟩ = some (.int .i64 e.tk)
      ∧ w.cell? ⟨(x.add (i * 5)).block, (x.add (i * 5)).off + 3, none⟩ = some (.int .i64 e.ot) ∧ w.cell? ⟨(x.add (i * 5)).block, (x.add (i * 5)).off + 4, none⟩ = some (.int .i64 e.lv) := by
  obtain ⟨x, ha, _, hc⟩ := h.2 i e hi
  exact ⟨x, ha, hc 0 (by omega), cell_field (i := i * 5) (j := 0) (hc 1 (by omega)), cell_field (i := i * 5) (j := 1) (hc 2 (by omega)), cell_field (i := i * 5) (j := 2) (hc 3 (by omega)), cell_field (i := i * 5) (j := 3) (hc 4 (by omega))⟩
theorem OwnE.inE {w : World} {B : Nat} {v : Value} {es : List Ev} (h : OwnE w B v es) : ∃ a c, v = .slice a es.length c ∧ InE w a es := by
  rcases h.2 with ⟨rfl, h2⟩ | ⟨g, cap, cur, rfl, _, hg, hn, hm, _, _⟩
  · have hl : es.length = 0 := h2
    have : es = [] := List.length_eq_zero_iff.1 hl
    subst this
    exact ⟨none, 0, rfl, by unfold maxLen; omega, fun i e hi => by simp at hi⟩
  · refine ⟨_, _, rfl, by unfold maxLen at *; omega, fun i e hi => ⟨_, rfl, (Array.getElem?_eq_some_iff.1 hg).1, fun j hj => ?_⟩⟩
    have e1 := cellsV_at es i j e hi hj
    have hlt : j < (evV e).size := hj
    rw [Array.getElem?_eq_getElem hlt] at e1 ⊢
    exact World.ownsRow.cells h rfl _ _ e1
theorem OwnY.str {w : World} {B : Nat} {v : Value} {l : List UInt8} (h : OwnY w B v l) : (convert 30 9 v).run Tryd.prog w = .ok (.string ⟨l.toArray⟩) w := by
  rcases h.2 with ⟨rfl, h2⟩ | ⟨g, cap, cur, rfl, _, hg, hn, hm, _, ht⟩
  · have hl : l.length = 0 := h2
    have : l = [] := List.length_eq_zero_iff.1 hl
    subst this
    exact Lib.run_convert_nil_bytes w 30 9 5 0 Tryd.underlying30 Tryd.underlying5 Tryd.underlying9
  · refine run_convert_bytes_back w 30 9 5 ⟨g, 0, none⟩ cap l Tryd.underlying30 Tryd.underlying5 Tryd.underlying9 ?_
    refine Lib.bytes_of_row hg ?_
    rw [Nat.mul_one] at ht
    exact ht

/-- What Format answers. -/
def formatR (es : List Ev) : List UInt8 × Int := if 65536 < es.length then ([], 2) else if es.all validB = true then (textB es, 0) else ([], 6)
def Formatted (es : List Ev) (w : World) (e : Ending) (w' : World) : Prop := e = .returned (.tuple #[.string ⟨(formatR es).1.toArray⟩, .int .i64 (formatR es).2]) ∧ Below w.heap.size w w'
def FmR (w : World) (es : List Ev) (v i : Value) (wr : World) : Prop :=
  ∃ k : Nat, k ≤ es.length ∧ i = .int .i64 (k : Int) ∧ OwnY wr w.heap.size v (textB (es.take k)) ∧ (es.take k).all validB = true ∧ Below w.heap.size w wr
theorem textB_step {es : List Ev} {k : Nat} {e : Ev} (he : es[k]? = some e) : textB (es.take (k + 1)) = textB (es.take k) ++ lineB e ++ [10] := by
  rw [List.take_add_one, he, textB_append]
  simp [textB]
theorem allV_step {es : List Ev} {k : Nat} {e : Ev} (he : es[k]? = some e) (h : (es.take k).all validB = true) (ho : validB e = true) : (es.take (k + 1)).all validB = true := by
  rw [List.take_add_one, he]
  simp [ho] at h ⊢
  exact h
theorem allV_not {es : List Ev} {k : Nat} {e : Ev} (he : es[k]? = some e) (ho : validB e = false) : es.all validB = false :=
  List.all_eq_false.2 ⟨e, List.mem_of_getElem? he, by simp [ho]⟩

theorem format_many {w : World} {a : Option Addr} {es : List Ev} (c : Nat) (h : 65536 < es.length) :
    Calls Tryd.prog 9 #[.slice a es.length c] w (Formatted es w) := by
  have HR := Lib.hid (show formatR es = ([], 2) by unfold formatR; rw [if_pos h])
  have hd : decide ((65536 : Int) < (es.length : Int)) = true := decide_eq_true (by omega)
  clear h
  go_enter Tryd.func9, Tryd.ntmps9
  go_wp2
  go_ret2
  exact ⟨by rw [HR.out]; rfl, Below.refl _ _⟩

set_option maxRecDepth 100000 in
set_option maxHeartbeats 4000000 in
theorem format_few {w : World} {a : Option Addr} {es : List Ev} (hin : InE w a es) (c : Nat) (hl : es.length ≤ 65536) (hlib : Libs w.heap.size w) :
    Calls Tryd.prog 9 #[.slice a es.length c] w (Formatted es w) := by
  have HR0 := Lib.hid (show es.all validB = true → formatR es = (textB es, 0) from fun h => by unfold formatR; rw [if_neg (by omega), if_pos h])
  have HR1 := Lib.hid (show es.all validB = false → formatR es = ([], 6) from fun h => by unfold formatR; rw [if_neg (by omega), if_neg (by rw [h]; simp)])
  have hd : decide ((65536 : Int) < (es.length : Int)) = false := decide_eq_false (by omega)
  obtain ⟨N, hN⟩ : ∃ N : Nat, es.length = N := ⟨_, rfl⟩
  rw [hN] at hd hl ⊢
  obtain ⟨M, hM⟩ : ∃ M : Nat, M = 65536 := ⟨_, rfl⟩
  have hNM : N ≤ M := by omega
  have HM := Lib.hid hM
  have HNN := Lib.hid hN
  have HIn := Lib.hid hin
  have HLib := Lib.hid hlib
  clear hin hlib hl hM hN
  go_enter Tryd.func9, Tryd.ntmps9
  go_wp2_with fail
  go_loopw [4, 12] (fun v i wr => FmR w es v i wr) (fun _ i _ => N - (intOf i).toNat)
  case atStart => exact ⟨0, by omega, rfl, OwnY.nil _ _, rfl, Below.refl _ _⟩
  case round =>
    obtain ⟨k, hk, rfl, hown, hall, hbel⟩ := hrel
    have HO := Lib.hid hown
    have HA := Lib.hid hall
    have HB := Lib.hid hbel
    rw [HNN.out] at hk
    clear hown hall hbel hd
    have hN9 : N ≤ 9223372036854775807 := by have := HM.out; omega
    by_cases hlt : k < N
    · obtain ⟨e, he⟩ : ∃ e, es[k]? = some e := ⟨_, List.getElem?_eq_getElem (by rw [HNN.out]; exact hlt)⟩
      obtain ⟨x, rfl, c0, c1, c2, c3, c4⟩ := (HIn.out.below HB.out).at_ he
      have HE := Lib.hid he
      clear he
      have hE := Lib.hid (Blk.made wr 23 (evV e))
      have hO1 := Lib.hid (HO.out.alloc (.cells (evV e) 23))
      have hB1 := Lib.hid (HB.out.trans ((below_one wr (.cells (evV e) 23)).mono HB.out.size))
      go_upto_region 7 with fail
      have e0 := hE.out.at_ 0
      have e1 := hE.out.at_ 1
      have e2 := hE.out.at_ 2
      have e3 := hE.out.at_ 3
      have e4 := hE.out.at_ 4
      generalize wr.alloc (.cells (evV e) 23) = W1 at *
      clear c0 c1 c2 c3 c4
      go_wp2_with fail
      (with_reducible refine (valid_any _ _).mono ?_)
      rintro en W2 ⟨rfl, hb⟩
      have hE2 := Lib.hid (hE.out.below hb)
      have hO2 := Lib.hid (hO1.out.below hb)
      have hB2 := Lib.hid (hB1.out.trans (hb.mono hB1.out.size))
      clear hb e0 e1 e2 e3 e4 hE hO1 hB1
      cases hv : validB e with
      | false =>
        have HF := Lib.hid (allV_not HE.out hv)
        clear hv
        go_wp2_with fail
        go_ret2
        exact ⟨by rw [HR1.out HF.out]; rfl, hB2.out⟩
      | true =>
        have HV := Lib.hid hv
        clear hv
        have e0 := hE2.out.at_ 0
        have e1 := hE2.out.at_ 1
        have e2 := hE2.out.at_ 2
        have e3 := hE2.out.at_ 3
        have e4 := hE2.out.at_ 4
        have hlen : (textB (es.take k)).length ≤ 40000000 := by
          have h1 := textB_len HA.out
          have h2 : (es.take k).length ≤ k := List.length_take_le _ _
          have h3 := HM.out
          omega
        have HLen := Lib.hid hlen
        clear hlen
        go_upto_region 9 with fail
        go_wp2_with fail
        (with_reducible refine (write_any (HLib.out.on hB2.out) hO2.out hB2.out.size (by have := HLen.out; omega) HV.out).mono ?_)
        rintro en W3 ⟨v3, rfl, hown3, hb3, _⟩
        have HO3 := Lib.hid hown3
        have HB3 := Lib.hid (hB2.out.trans hb3)
        clear hown3 hb3 e0 e1 e2 e3 e4 hE2 hO2 hB2
        go_wp2_with
          (at_builtin
           refine wpList_appY (ns := [10]) rfl (.tmp 21) (.tmp 22) rfl rfl (HO3.out.alloc _) rfl rfl (one_cellY _ 10) (by have := HLen.out; have := lineB_len HV.out; simp only [List.length_append]; omega) (by have := HB3.out.size; simp; omega) ?_
           intro v4 W4 hown4 hg4
           have HO4 := Lib.hid hown4
           have HB4 := Lib.hid (HB3.out.trans (((below_one W3 (.cells #[.int .u8 10] 5)).mono HB3.out.size).trans (below_appY (by have := HB3.out.size; simp; omega) (HO3.out.alloc _) hg4)))
           clear hown4 hg4 HO3)
        go_roundw
        case rel => exact ⟨k + 1, by rw [HNN.out]; omega, by go_num, by rw [textB_step HE.out]; exact HO4.out, allV_step HE.out HA.out HV.out, HB4.out⟩
        case measure => simp [intOf]; omega
    · have h4 : k = N := by omega
      have hrun := HO.out.str
      have HT := Lib.hid (show es.take k = es from by rw [h4, ← HNN.out]; exact List.take_length)
      have HAll := Lib.hid (show es.all validB = true from by have := HA.out; rwa [HT.out] at this)
      clear h4
      go_wp2_with fail
      go_ret2
      exact ⟨by rw [HR0.out HAll.out]; exact congrArg (fun t : List UInt8 => Ending.returned (.tuple #[.string ⟨t.toArray⟩, .int .i64 0])) (by rw [HT.out]), HB.out⟩
theorem format_any {w : World} {a : Option Addr} {es : List Ev} (hin : InE w a es) (c : Nat) (hlib : Libs w.heap.size w) :
    Calls Tryd.prog 9 #[.slice a es.length c] w (Formatted es w) := by
  by_cases h : 65536 < es.length
  · exact format_many c h
  · exact format_few hin c (by omega) hlib
end Go.Proofs.YtcjiikaiobomeaaDoor
