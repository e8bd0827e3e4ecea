/-
  The reference's forms, field and Valid. (Written by wip/gen_evr.py.)
-/
import Derived.Test.YtcjiikaiobomeaaDoorEvB
namespace Go.Proofs.YtcjiikaiobomeaaDoor
open Go Go.RowKit
set_option linter.unusedSimpArgs false

/-- The five cells of kind k's form. -/
def formC (k : Nat) : List Value := [.int .i64 (k : Int), .string ⟨(lineTab.getD k ([], 0)).1.toArray⟩, .bool (hasF (lineTab.getD k ([], 0)).2 1), .bool (hasF (lineTab.getD k ([], 0)).2 2), .bool (hasF (lineTab.getD k ([], 0)).2 3)]
def cellsF : List Nat → List Value
  | [] => []
  | k :: r => .int .i64 (k : Int) :: .string ⟨(lineTab.getD k ([], 0)).1.toArray⟩ :: .bool (hasF (lineTab.getD k ([], 0)).2 1) :: .bool (hasF (lineTab.getD k ([], 0)).2 2) :: .bool (hasF (lineTab.getD k ([], 0)).2 3) :: cellsF r
theorem cellsF_at : ∀ (l : List Nat) (i j k : Nat), l[i]? = some k → j < 5 → (cellsF l)[i * 5 + j]? = (formC k)[j]?
  | [], _, _, _, h, _ => by simp at h
  | x :: r, 0, j, k, h, hj => by
    simp only [List.getElem?_cons_zero, Option.some.injEq] at h
    subst h
    match j, hj with
    | 0, _ => rfl
    | 1, _ => rfl
    | 2, _ => rfl
    | 3, _ => rfl
    | 4, _ => rfl
    | j + 5, hj => omega
  | x :: r, i + 1, j, k, h, hj => by
    have := cellsF_at r i j k (by simpa using h) hj
    rw [show (i + 1) * 5 + j = i * 5 + j + 1 + 1 + 1 + 1 + 1 by omega]
    simpa [cellsF] using this
def kindsF : List Nat := [1, 2, 3, 4, 5, 6, 7, 8, 9, 10, 11, 12, 13, 14, 15, 16, 17, 18, 19]
theorem kindsF_at : ∀ i, i < 19 → kindsF[i]? = some (i + 1) := by decide
def formsV : Array Value := (cellsF kindsF).toArray
def formZ : Value := .agg #[.int .i64 0, .string ⟨#[]⟩, .bool false, .bool false, .bool false]
theorem formI_is : ∃ ie : TypeInfo, Tryd.prog.info? 45 = some ie ∧ ie.zero = some formZ ∧ ie.size = 5 := ⟨(Tryd.prog.info? 45).getD default, by kernel_rfl, by kernel_rfl, by kernel_rfl⟩
/-- What forms gives. -/
def FormsP (w : World) (e : Ending) (w' : World) : Prop := ∃ g, e = .returned (.slice (some ⟨g, 0, none⟩) 19 19) ∧ Blk w' g 45 formsV ∧ w.heap.size ≤ g ∧ Below w.heap.size w w'

set_option maxRecDepth 100000 in
set_option maxHeartbeats 4000000 in
theorem forms_any (w : World) : Calls Tryd.prog 14 #[] w (FormsP w) := by
  have hB := Lib.hid (below_one w (.cells formsV 45))
  have hR := Lib.hid (Blk.made w 45 formsV)
  obtain ⟨ie, hi, hz, hs⟩ := formI_is
  go_enter Tryd.func14, Tryd.ntmps14
  go_upto_region 1 with fail
  refine wp_region_lit ?_
  refine wpList_buildTo rfl 45 _ rfl (some 1) rfl #[.int .i64 1, .string ⟨#[97, 99, 99, 101, 112, 116]⟩, .bool true, .bool true, .bool true] (by kernel_rfl) ?_
  refine wpList_buildTo rfl 45 _ rfl (some 2) rfl #[.int .i64 2, .string ⟨#[114, 101, 106, 101, 99, 116]⟩, .bool false, .bool true, .bool true] (by kernel_rfl) ?_
  refine wpList_buildTo rfl 45 _ rfl (some 3) rfl #[.int .i64 3, .string ⟨#[115, 112, 97, 119, 110]⟩, .bool true, .bool true, .bool true] (by kernel_rfl) ?_
  refine wpList_buildTo rfl 45 _ rfl (some 4) rfl #[.int .i64 4, .string ⟨#[114, 101, 102, 117, 115, 101]⟩, .bool true, .bool false, .bool false] (by kernel_rfl) ?_
  refine wpList_buildTo rfl 45 _ rfl (some 5) rfl #[.int .i64 5, .string ⟨#[115, 116, 97, 114, 116]⟩, .bool true, .bool false, .bool false] (by kernel_rfl) ?_
  refine wpList_buildTo rfl 45 _ rfl (some 6) rfl #[.int .i64 6, .string ⟨#[98, 108, 111, 99, 107]⟩, .bool true, .bool true, .bool false] (by kernel_rfl) ?_
  refine wpList_buildTo rfl 45 _ rfl (some 7) rfl #[.int .i64 7, .string ⟨#[115, 101, 116, 116, 108, 101]⟩, .bool true, .bool false, .bool true] (by kernel_rfl) ?_
  refine wpList_buildTo rfl 45 _ rfl (some 8) rfl #[.int .i64 8, .string ⟨#[106, 111, 105, 110]⟩, .bool true, .bool true, .bool false] (by kernel_rfl) ?_
  refine wpList_buildTo rfl 45 _ rfl (some 9) rfl #[.int .i64 9, .string ⟨#[114, 101, 115, 117, 109, 101]⟩, .bool true, .bool false, .bool false] (by kernel_rfl) ?_
  refine wpList_buildTo rfl 45 _ rfl (some 10) rfl #[.int .i64 10, .string ⟨#[102, 105, 110, 105, 115, 104]⟩, .bool true, .bool false, .bool false] (by kernel_rfl) ?_
  refine wpList_buildTo rfl 45 _ rfl (some 11) rfl #[.int .i64 11, .string ⟨#[98, 111, 111, 115, 116]⟩, .bool true, .bool false, .bool true] (by kernel_rfl) ?_
  refine wpList_buildTo rfl 45 _ rfl (some 12) rfl #[.int .i64 12, .string ⟨#[97, 103, 101]⟩, .bool true, .bool false, .bool true] (by kernel_rfl) ?_
  refine wpList_buildTo rfl 45 _ rfl (some 13) rfl #[.int .i64 13, .string ⟨#[114, 101, 109, 111, 118, 101]⟩, .bool true, .bool false, .bool false] (by kernel_rfl) ?_
  refine wpList_buildTo rfl 45 _ rfl (some 14) rfl #[.int .i64 14, .string ⟨#[115, 116, 101, 97, 108]⟩, .bool true, .bool true, .bool true] (by kernel_rfl) ?_
  refine wpList_buildTo rfl 45 _ rfl (some 15) rfl #[.int .i64 15, .string ⟨#[115, 107, 105, 112]⟩, .bool true, .bool false, .bool false] (by kernel_rfl) ?_
  refine wpList_buildTo rfl 45 _ rfl (some 16) rfl #[.int .i64 16, .string ⟨#[112, 97, 114, 107]⟩, .bool false, .bool false, .bool false] (by kernel_rfl) ?_
  refine wpList_buildTo rfl 45 _ rfl (some 17) rfl #[.int .i64 17, .string ⟨#[117, 110, 112, 97, 114, 107]⟩, .bool false, .bool true, .bool false] (by kernel_rfl) ?_
  refine wpList_buildTo rfl 45 _ rfl (some 18) rfl #[.int .i64 18, .string ⟨#[119, 97, 107, 101]⟩, .bool false, .bool true, .bool false] (by kernel_rfl) ?_
  refine wpList_buildTo rfl 45 _ rfl (some 19) rfl #[.int .i64 19, .string ⟨#[110, 111, 114, 111, 111, 109]⟩, .bool true, .bool false, .bool true] (by kernel_rfl) ?_
  refine wpList_buildSlice rfl 42 45 19 _ rfl formsV ie formZ Tryd.underlying42 hi hz (by rw [hs]; decide) (by rw [hs]; decide) (by rw [hs]; kernel_rfl) ?_
  generalize w.alloc (.cells formsV 45) = W at *
  refine wpList_plain rfl fun K hK => ?_
  unfold Oper.wp execOp
  refine hK _ _ (wpList_nil ?_)
  go_wp2_with fail
  go_ret
  exact ⟨_, rfl, hR.out, Nat.le_refl _, hB.out⟩
def fieldB (v : Int) (b : Bool) : Bool := decide (0 ≤ v) && decide (v ≤ if b = true then 256 else 0)
theorem field_any (v : Int) (b : Bool) (w : World) : Calls Tryd.prog 15 #[.int .i64 v, .bool b] w fun e w' => e = .returned (.bool (fieldB v b)) ∧ w' = w := by
  by_cases h0 : v < 0
  · have HF := Lib.hid (show fieldB v b = false by simp [fieldB]; omega)
    have d0 : (v == 0) = false := by simp; omega
    cases b <;> (go_enter Tryd.func15, Tryd.ntmps15; go_wp2; go_ret; exact ⟨by rw [HF.out]; rfl, rfl⟩)
  · by_cases h1 : v = 0
    · subst h1
      cases b <;> (go_enter Tryd.func15, Tryd.ntmps15; go_wp2; go_ret; exact ⟨rfl, rfl⟩)
    · have d0 : (v == 0) = false := by simpa using h1
      by_cases h2 : v ≤ 256
      · cases b
        · have HF := Lib.hid (show fieldB v false = false by simp [fieldB]; omega)
          go_enter Tryd.func15, Tryd.ntmps15
          go_wp2
          go_ret
          exact ⟨by rw [HF.out]; rfl, rfl⟩
        · have HF := Lib.hid (show fieldB v true = true by simp [fieldB]; omega)
          have d1 : 0 < v := by omega
          clear h1
          go_enter Tryd.func15, Tryd.ntmps15
          go_wp2
          go_ret
          exact ⟨by rw [HF.out]; rfl, rfl⟩
      · have HF := Lib.hid (show fieldB v b = false by cases b <;> (simp [fieldB]; omega))
        have d1 : 0 < v := by omega
        cases b <;> (go_enter Tryd.func15, Tryd.ntmps15; go_wp2; go_ret; exact ⟨by rw [HF.out]; rfl, rfl⟩)
theorem fieldB_in (m i : Nat) (v : Int) : fieldB v (hasF m i) = inF m i v := rfl
theorem has0 : ∀ k, k < 19 → hasF (lineTab.getD (k + 1) ([], 0)).2 0 = true ∧ (lineTab.getD (k + 1) ([], 0)).1 ≠ [] := by decide
/-- Valid, of an event whose kind has place k + 1. -/
theorem validB_kind {e : Ev} {k : Nat} (hk : k < 19) (he : e.kd = (k : Int) + 1) : validB e = (fieldB e.wk true && (fieldB e.tk (hasF (lineTab.getD (k + 1) ([], 0)).2 1) && (fieldB e.ot (hasF (lineTab.getD (k + 1) ([], 0)).2 2) && fieldB e.lv (hasF (lineTab.getD (k + 1) ([], 0)).2 3)))) := by
  have e1 : kindN e.kd = k + 1 := by
    unfold kindN
    rw [he, if_pos (by omega)]
    omega
  obtain ⟨h0, h1⟩ := has0 k hk
  unfold validB
  have e2 : wordK e.kd = (lineTab.getD (k + 1) ([], 0)).1 := by unfold wordK; rw [e1]
  have e3 : maskK e.kd = (lineTab.getD (k + 1) ([], 0)).2 := by unfold maskK; rw [e1]
  rw [e2, e3, ← fieldB_in, ← fieldB_in, ← fieldB_in, ← fieldB_in, h0]
  have : (lineTab.getD (k + 1) ([], 0)).1.isEmpty = false := by
    cases hq : (lineTab.getD (k + 1) ([], 0)).1 with
    | nil => exact absurd hq h1
    | cons a b => rfl
  rw [this]
  rfl
theorem validB_out {e : Ev} (h : ∀ k : Nat, k < 19 → e.kd ≠ (k : Int) + 1) : validB e = false := by
  apply validB_nil
  unfold wordK
  have : kindN e.kd = 0 := by
    unfold kindN
    split
    · have := h (e.kd.toNat - 1)
      by_cases h0 : e.kd = 0
      · rw [h0]
        rfl
      · exact absurd (show e.kd = ((e.kd.toNat - 1 : Nat) : Int) + 1 by omega) (this (by omega))
    · rfl
  rw [this]
  rfl
structure RvS (w : World) (e : Ev) (g : Nat) (u : World) : Prop where
  ev : Blk u w.heap.size 23 (evV e)
  fo : Blk u g 45 formsV
  bel : Below w.heap.size w u
theorem RvS.drewN {w u : World} {e : Ev} {g : Nat} (h : RvS w e g u) (n : Nat) : RvS w e g (u.drewN n) := ⟨h.ev.below (below_drewN u n), h.fo.below (below_drewN u n), h.bel.trans ((below_drewN u n).mono h.bel.size)⟩
def RvR (w : World) (e : Ev) (g : Nat) (i : Value) (u : World) : Prop :=
  ∃ k : Nat, k ≤ 19 ∧ i = .int .i64 (k : Int) ∧ (∀ j : Nat, j < k → e.kd ≠ (j : Int) + 1) ∧ RvS w e g u
theorem formsV_at {w : World} {g : Nat} (h : Blk w g 45 formsV) {i : Nat} (hi : i < 19) (j : Nat) (hj : j < 5) : w.cell? ⟨g, i * 5 + j, none⟩ = (formC (i + 1))[j]? := by
  rw [h.at_, formsV]
  simp only [List.getElem?_toArray]
  exact cellsF_at kindsF i j (i + 1) (kindsF_at i hi) hj
theorem add_off (g i : Nat) : (⟨g, 0, none⟩ : Addr).add i = ⟨g, i, none⟩ := by
  unfold Addr.add
  split <;> simp_all
set_option maxRecDepth 100000 in
set_option maxHeartbeats 8000000 in
theorem rvalid_any (e : Ev) (w : World) : Calls Tryd.prog 7 #[.agg (evV e)] w fun en w' => en = .returned (.bool (validB e)) ∧ Below w.heap.size w w' := by
  have hB := Lib.hid (below_one w (.cells (evV e) 23))
  have hE := Lib.hid (Blk.made w 23 (evV e))
  go_enter Tryd.func7, Tryd.ntmps7
  go_upto_region 1 with fail
  generalize w.alloc (.cells (evV e) 23) = W at *
  go_wp2_with fail
  (with_reducible refine (forms_any _).mono ?_)
  rintro en W1 ⟨g, rfl, hF, hg, hb⟩
  have HS := Lib.hid (show RvS w e g W1 from ⟨hE.out.below hb, hF, hB.out.trans (hb.mono hB.out.size)⟩)
  clear hF hg hb hB hE
  go_wp2_with fail
  go_loopw [4] (fun i u => RvR w e g i u) (fun i _ => 19 - (intOf i).toNat)
  case atStart => exact ⟨0, by omega, rfl, fun j hj => absurd hj (by omega), HS.out⟩
  case round =>
    obtain ⟨k, hk, rfl, hall, hst⟩ := hrel
    have HA := Lib.hid hall
    have HR := Lib.hid hst
    clear hall hst HS
    by_cases hlt : k < 19
    · have hkd := Lib.hid (fun h => validB_kind (e := e) hlt h)
      have f0 := formsV_at HR.out.fo hlt 0 (by omega)
      have f2 := formsV_at HR.out.fo hlt 2 (by omega)
      have f3 := formsV_at HR.out.fo hlt 3 (by omega)
      have f4 := formsV_at HR.out.fo hlt 4 (by omega)
      simp only [formC, List.getElem?_cons_zero, List.getElem?_cons_succ, Nat.add_zero] at f0 f2 f3 f4
      have e0 := HR.out.ev.at_ 0
      go_upto_region 5 with fail
      go_quiet (fail)
      have HR5 := Lib.hid (HR.out.drewN nq)
      clear f0 f2 f3 f4 e0
      generalize wr.drewN nq = W5 at *
      by_cases hk1 : e.kd = (k : Int) + 1
      · have HK := Lib.hid hk1
        have hd : (((k + 1 : Nat) : Int) == e.kd) = true := by rw [hk1]; simp
        clear hk1
        go_upto_region 6 with fail
        have HR6 := HR5
        have f2 := formsV_at HR6.out.fo hlt 2 (by omega)
        have f3 := formsV_at HR6.out.fo hlt 3 (by omega)
        have f4 := formsV_at HR6.out.fo hlt 4 (by omega)
        have e1 := HR6.out.ev.at_ 1
        have e2 := HR6.out.ev.at_ 2
        have e3 := HR6.out.ev.at_ 3
        have e4 := HR6.out.ev.at_ 4
        simp only [formC, List.getElem?_cons_zero, List.getElem?_cons_succ, Nat.add_zero] at f2 f3 f4
        generalize hasF (lineTab.getD (k + 1) ([], 0)).2 1 = b1 at *
        generalize hasF (lineTab.getD (k + 1) ([], 0)).2 2 = b2 at *
        generalize hasF (lineTab.getD (k + 1) ([], 0)).2 3 = b3 at *
        clear hd
        cases q0 : fieldB e.wk true with
        | false =>
          have HV := Lib.hid (show validB e = false by rw [hkd.out HK.out, q0]; rfl)
          have hq0 : ∀ u, Calls Tryd.prog 15 #[.int .i64 e.wk, .bool true] u fun en w' => en = .returned (.bool false) ∧ w' = u := fun u => by have := field_any e.wk true u; rw [q0] at this; exact this
          clear q0
          go_quiet ((go_at_call 15; first | (with_reducible exact Calls.quiet_of_same (hq0 _))))
          go_wp2_with fail
          go_ret
          exact ⟨by rw [HV.out]; rfl, HR6.out.bel.trans ((below_drewN _ _).mono HR6.out.bel.size)⟩
        | true =>
          cases q1 : fieldB e.tk b1 with
          | false =>
            have HV := Lib.hid (show validB e = false by rw [hkd.out HK.out, q0, q1]; rfl)
            have hq0 : ∀ u, Calls Tryd.prog 15 #[.int .i64 e.wk, .bool true] u fun en w' => en = .returned (.bool true) ∧ w' = u := fun u => by have := field_any e.wk true u; rw [q0] at this; exact this
            have hq1 : ∀ u, Calls Tryd.prog 15 #[.int .i64 e.tk, .bool b1] u fun en w' => en = .returned (.bool false) ∧ w' = u := fun u => by have := field_any e.tk b1 u; rw [q1] at this; exact this
            clear q0 q1
            go_quiet ((go_at_call 15; first | (with_reducible exact Calls.quiet_of_same (hq0 _)) | (with_reducible exact Calls.quiet_of_same (hq1 _))))
            go_wp2_with fail
            go_ret
            exact ⟨by rw [HV.out]; rfl, HR6.out.bel.trans ((below_drewN _ _).mono HR6.out.bel.size)⟩
          | true =>
            cases q2 : fieldB e.ot b2 with
            | false =>
              have HV := Lib.hid (show validB e = false by rw [hkd.out HK.out, q0, q1, q2]; rfl)
              have hq0 : ∀ u, Calls Tryd.prog 15 #[.int .i64 e.wk, .bool true] u fun en w' => en = .returned (.bool true) ∧ w' = u := fun u => by have := field_any e.wk true u; rw [q0] at this; exact this
              have hq1 : ∀ u, Calls Tryd.prog 15 #[.int .i64 e.tk, .bool b1] u fun en w' => en = .returned (.bool true) ∧ w' = u := fun u => by have := field_any e.tk b1 u; rw [q1] at this; exact this
              have hq2 : ∀ u, Calls Tryd.prog 15 #[.int .i64 e.ot, .bool b2] u fun en w' => en = .returned (.bool false) ∧ w' = u := fun u => by have := field_any e.ot b2 u; rw [q2] at this; exact this
              clear q0 q1 q2
              go_quiet ((go_at_call 15; first | (with_reducible exact Calls.quiet_of_same (hq0 _)) | (with_reducible exact Calls.quiet_of_same (hq1 _)) | (with_reducible exact Calls.quiet_of_same (hq2 _))))
              go_wp2_with fail
              go_ret
              exact ⟨by rw [HV.out]; rfl, HR6.out.bel.trans ((below_drewN _ _).mono HR6.out.bel.size)⟩
            | true =>
              cases q3 : fieldB e.lv b3 with
              | false =>
                have HV := Lib.hid (show validB e = false by rw [hkd.out HK.out, q0, q1, q2, q3]; rfl)
                have hq0 : ∀ u, Calls Tryd.prog 15 #[.int .i64 e.wk, .bool true] u fun en w' => en = .returned (.bool true) ∧ w' = u := fun u => by have := field_any e.wk true u; rw [q0] at this; exact this
                have hq1 : ∀ u, Calls Tryd.prog 15 #[.int .i64 e.tk, .bool b1] u fun en w' => en = .returned (.bool true) ∧ w' = u := fun u => by have := field_any e.tk b1 u; rw [q1] at this; exact this
                have hq2 : ∀ u, Calls Tryd.prog 15 #[.int .i64 e.ot, .bool b2] u fun en w' => en = .returned (.bool true) ∧ w' = u := fun u => by have := field_any e.ot b2 u; rw [q2] at this; exact this
                have hq3 : ∀ u, Calls Tryd.prog 15 #[.int .i64 e.lv, .bool b3] u fun en w' => en = .returned (.bool false) ∧ w' = u := fun u => by have := field_any e.lv b3 u; rw [q3] at this; exact this
                clear q0 q1 q2 q3
                go_quiet ((go_at_call 15; first | (with_reducible exact Calls.quiet_of_same (hq0 _)) | (with_reducible exact Calls.quiet_of_same (hq1 _)) | (with_reducible exact Calls.quiet_of_same (hq2 _)) | (with_reducible exact Calls.quiet_of_same (hq3 _))))
                go_wp2_with fail
                go_ret
                exact ⟨by rw [HV.out]; rfl, HR6.out.bel.trans ((below_drewN _ _).mono HR6.out.bel.size)⟩
              | true =>
                have HV := Lib.hid (show validB e = true by rw [hkd.out HK.out, q0, q1, q2, q3]; rfl)
                have hq0 : ∀ u, Calls Tryd.prog 15 #[.int .i64 e.wk, .bool true] u fun en w' => en = .returned (.bool true) ∧ w' = u := fun u => by have := field_any e.wk true u; rw [q0] at this; exact this
                have hq1 : ∀ u, Calls Tryd.prog 15 #[.int .i64 e.tk, .bool b1] u fun en w' => en = .returned (.bool true) ∧ w' = u := fun u => by have := field_any e.tk b1 u; rw [q1] at this; exact this
                have hq2 : ∀ u, Calls Tryd.prog 15 #[.int .i64 e.ot, .bool b2] u fun en w' => en = .returned (.bool true) ∧ w' = u := fun u => by have := field_any e.ot b2 u; rw [q2] at this; exact this
                have hq3 : ∀ u, Calls Tryd.prog 15 #[.int .i64 e.lv, .bool b3] u fun en w' => en = .returned (.bool true) ∧ w' = u := fun u => by have := field_any e.lv b3 u; rw [q3] at this; exact this
                clear q0 q1 q2 q3
                go_quiet ((go_at_call 15; first | (with_reducible exact Calls.quiet_of_same (hq0 _)) | (with_reducible exact Calls.quiet_of_same (hq1 _)) | (with_reducible exact Calls.quiet_of_same (hq2 _)) | (with_reducible exact Calls.quiet_of_same (hq3 _))))
                go_wp2_with fail
                go_ret
                exact ⟨by rw [HV.out]; rfl, HR6.out.bel.trans ((below_drewN _ _).mono HR6.out.bel.size)⟩
      · have hd : (((k + 1 : Nat) : Int) == e.kd) = false := by simp; omega
        have HK := Lib.hid hk1
        clear hk1
        go_wp2_with fail
        go_roundw
        case rel => exact ⟨k + 1, by omega, by go_num, fun j hj => by
          by_cases hjk : j = k
          · subst hjk
            exact HK.out
          · exact HA.out j (by omega), HR5.out⟩
        case measure => simp [intOf]; omega
    · have h4 : k = 19 := by omega
      subst h4
      have HV := Lib.hid (validB_out (fun j hj => HA.out j hj))
      go_wp2_with fail
      go_ret
      exact ⟨by rw [HV.out]; rfl, HR.out.bel⟩
end Go.Proofs.YtcjiikaiobomeaaDoor
