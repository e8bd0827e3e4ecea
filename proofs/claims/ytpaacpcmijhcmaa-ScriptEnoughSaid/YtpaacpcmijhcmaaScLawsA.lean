/-
  The walks of the statements ScriptMachines, ScriptDecodes, ScriptEncodes.
-/
import Derived.Test.YtpaacpcmijhcmaaScAwake
namespace Go.Proofs.Ytpaacpcmijhcmaa
open Go Go.RowKit

set_option maxHeartbeats 2000000 in
theorem machines_law (k v n : Int) (hn : n ≤ 9223372036854775807) (p : Bool) (w : World) :
    Calls Try.prog 10 #[.agg #[.int .i64 k, .int .i64 v], .int .i64 n, .bool p] w fun e w' => e = .returned (.bool true) ∧ Below w.heap.size w w' := by
  obtain ⟨j, hj⟩ : ∃ j, (if p then 0 else k) = j := ⟨_, rfl⟩
  have HX := Lib.hid (Blk.made w 43 #[.int .i64 j, .int .i64 v])
  have HB := Lib.hid (below_one w (.cells #[.int .i64 j, .int .i64 v] 43))
  have hm : cls n (j, v) = -1 ∧ (n < 1 ∨ j ≠ 0) ∨ 1 ≤ n ∧ j = 0 ∧ 0 ≤ cls n (j, v) ∧ cls n (j, v) < n := by
    by_cases h1 : n < 1
    · exact .inl ⟨cls_low _ _ h1, .inl h1⟩
    · by_cases h2 : j = 0
      · have := cls_in n (j, v) h2 (by omega)
        exact .inr ⟨by omega, h2, this.1, this.2⟩
      · exact .inl ⟨cls_other _ _ h2, .inr h2⟩
  obtain ⟨m, hme⟩ : ∃ m, cls n (j, v) = m := ⟨_, rfl⟩
  rw [hme] at hm
  have HME := Lib.hid hme
  have HM := Lib.hid hm
  have HN := Lib.hid hn
  clear hme hm hn
  cases p with
  | true =>
    obtain rfl : (0 : Int) = j := hj
    go_enter Try.func10, Try.ntmps10
    go_wp2_with fail
    refine (mach_any 0 v n HN.out _).mono ?_
    rintro e w1 ⟨rfl, b1⟩
    have B1 := Lib.hid (HB.out.trans (b1.mono HB.out.size))
    have X1 := Lib.hid (HX.out.of_same (b1.block w.heap.size (by simp)))
    rw [HME.out]
    clear b1 HB HX
    go_wp2_with fail
    refine (awake_any w1).mono ?_
    rintro e w2 ⟨rfl, b2⟩
    have B2 := Lib.hid (B1.out.trans (b2.mono B1.out.size))
    have X2 := Lib.hid (X1.out.of_same (b2.block w.heap.size X1.out.lt))
    have c0 : w2.cell? ⟨w.heap.size, 0, none⟩ = some (.int .i64 0) := X2.out.at_ 0
    have c1 : w2.cell? ⟨w.heap.size, 1, none⟩ = some (.int .i64 v) := X2.out.at_ 1
    clear b2 B1 X1
    go_wp2_with fail
    refine (rmach_any 0 v n HN.out _).mono ?_
    rintro e w3 ⟨rfl, b3⟩
    have B3 := Lib.hid (B2.out.trans (b3.mono B2.out.size))
    have X3 := Lib.hid (X2.out.of_same (b3.block w.heap.size X2.out.lt))
    have d0 : w3.cell? ⟨w.heap.size, 0, none⟩ = some (.int .i64 0) := X3.out.at_ 0
    rw [HME.out]
    clear b3 B2 X2 c0 c1
    by_cases hn1 : n < 1
    · go_wp2
      go_ret
      exact ⟨rfl, B3.out⟩
    · obtain ⟨h1, h2⟩ : 0 ≤ m ∧ m < n := by
        rcases HM.out with ⟨_, h | h⟩ | ⟨_, _, h1, h2⟩
        · omega
        · exact absurd rfl h
        · exact ⟨h1, h2⟩
      go_wp2
      go_ret
      exact ⟨rfl, B3.out⟩
  | false =>
    obtain rfl : k = j := hj
    go_enter Try.func10, Try.ntmps10
    go_wp2_with fail
    refine (mach_any k v n HN.out _).mono ?_
    rintro e w1 ⟨rfl, b1⟩
    have B1 := Lib.hid (HB.out.trans (b1.mono HB.out.size))
    have X1 := Lib.hid (HX.out.of_same (b1.block w.heap.size (by simp)))
    rw [HME.out]
    clear b1 HB HX
    go_wp2_with fail
    refine (awake_any w1).mono ?_
    rintro e w2 ⟨rfl, b2⟩
    have B2 := Lib.hid (B1.out.trans (b2.mono B1.out.size))
    have X2 := Lib.hid (X1.out.of_same (b2.block w.heap.size X1.out.lt))
    have c0 : w2.cell? ⟨w.heap.size, 0, none⟩ = some (.int .i64 k) := X2.out.at_ 0
    have c1 : w2.cell? ⟨w.heap.size, 1, none⟩ = some (.int .i64 v) := X2.out.at_ 1
    clear b2 B1 X1
    go_wp2_with fail
    refine (rmach_any k v n HN.out _).mono ?_
    rintro e w3 ⟨rfl, b3⟩
    have B3 := Lib.hid (B2.out.trans (b3.mono B2.out.size))
    have X3 := Lib.hid (X2.out.of_same (b3.block w.heap.size X2.out.lt))
    have d0 : w3.cell? ⟨w.heap.size, 0, none⟩ = some (.int .i64 k) := X3.out.at_ 0
    rw [HME.out]
    clear b3 B2 X2 c0 c1
    by_cases hn1 : n < 1
    · go_wp2
      go_ret
      exact ⟨rfl, B3.out⟩
    · by_cases hk0 : k = 0
      · subst hk0
        obtain ⟨h1, h2⟩ : 0 ≤ m ∧ m < n := by
          rcases HM.out with ⟨_, h | h⟩ | ⟨_, _, h1, h2⟩
          · omega
          · exact absurd rfl h
          · exact ⟨h1, h2⟩
        go_wp2
        go_ret
        exact ⟨rfl, B3.out⟩
      · have hk0' : (k == 0) = false := by simpa using hk0
        go_wp2
        go_ret
        exact ⟨rfl, B3.out⟩

set_option maxHeartbeats 1000000 in
theorem decodes_law (a : Option Addr) (L c : Nat) (zs : List Int) (w : World) (h : InBytes w a L zs) :
    Calls Try.prog 3 #[.slice a L c] w fun e w' => e = .returned (.bool true) ∧ Below w.heap.size w w' := by
  have hmax := h.2.1
  unfold maxLen at hmax
  have hl := h.1
  have H := Lib.hid h
  clear h
  by_cases hL : (4000 : Int) < (L : Int)
  · clear hl
    go_enter Try.func3, Try.ntmps3
    go_wp2
    go_ret
    exact ⟨rfl, Below.refl _ _⟩
  · subst hl
    go_enter Try.func3, Try.ntmps3
    go_wp2_with fail
    refine (awake_any w).mono ?_
    rintro e w1 ⟨rfl, b1⟩
    have B1 := Lib.hid b1
    clear b1
    go_wp2_with fail
    refine (decode_any (H.out.below B1.out) _ (by omega)).mono ?_
    rintro e w2 ⟨a2, c2, rfl, E2, b2⟩
    have B2 := Lib.hid (B1.out.trans (b2.mono B1.out.size))
    have HE2 := Lib.hid E2
    clear b2 E2 B1
    go_wp2_with fail
    refine (rdecode_any (H.out.below B2.out) _ (by omega)).mono ?_
    rintro e w3 ⟨v3, rfl, O3, b3⟩
    have B3 := Lib.hid (B2.out.trans (b3.mono B2.out.size))
    obtain ⟨a3, c3, rfl, E3, _⟩ := O3.entsN (n := zs.length / 2) (by simp [decS])
    have HE3 := Lib.hid E3
    have HE4 := Lib.hid (HE2.out.below b3)
    clear b3 E3 O3 B2 HE2
    go_wp2_with fail
    refine (same_true HE4.out HE3.out _ _).mono ?_
    rintro e w4 ⟨rfl, b4⟩
    have B4 := Lib.hid (B3.out.trans (b4.mono B3.out.size))
    clear b4 B3
    go_wp2
    go_ret
    exact ⟨rfl, B4.out⟩

theorem OwnB.form {w : World} {base : Nat} {v : Value} {bs : List Int} (h : OwnB w base v bs) :
    ∃ a c, v = .slice a bs.length c ∧ ∀ w', Below w.heap.size w w' → (convert 22 9 (.slice a bs.length c)).run Try.prog w' = .ok (.string (strOfNums bs)) w' := by
  rcases h.2 with ⟨rfl, h2⟩ | ⟨g, cap, cur, rfl, h2, hg, hn, hc, _, _⟩
  · have : bs = [] := List.eq_nil_of_length_eq_zero h2
    subst this
    exact ⟨none, 0, rfl, fun w' _ => run_convert_bytes_nil w' 22 5 Try.underlying22 Try.underlying5 0 0 9 Try.underlying9⟩
  · refine ⟨_, cap, rfl, fun w' hb => run_convert_bytes_arg w' 22 5 Try.underlying22 Try.underlying5 g 0 bs.length cap bs rfl (fun i hi => ?_) 9 Try.underlying9⟩
    rw [hb.cell (p := ⟨g, 0 + i, none⟩) (Array.getElem?_eq_some_iff.1 hg).1]
    have := World.ownsRow.cells h rfl i (.int .u8 (bs.getD i 0)) (by simp [hi])
    have e : (⟨g, 0, none⟩ : Addr).add i = ⟨g, 0 + i, none⟩ := by unfold Addr.add; split <;> simp_all
    rwa [e] at this

theorem encoded_same {es : List (Int × Int)} {bs bs' : List Int} {er er' : Int} (h : (es.all okE = true ∧ bs = bytesE es ∧ er = 0) ∨ (es.all okE = false ∧ bs = [] ∧ er = 1)) (h' : (es.all okE = true ∧ bs' = bytesE es ∧ er' = 0) ∨ (es.all okE = false ∧ bs' = [] ∧ er' = 1)) : bs = bs' ∧ er = er' := by
  rcases h with ⟨h1, rfl, rfl⟩ | ⟨h1, rfl, rfl⟩ <;> rcases h' with ⟨h2, rfl, rfl⟩ | ⟨h2, rfl, rfl⟩
  · exact ⟨rfl, rfl⟩
  · rw [h1] at h2
    cases h2
  · rw [h1] at h2
    cases h2
  · exact ⟨rfl, rfl⟩

set_option maxHeartbeats 1000000 in
theorem encodes_law (a : Option Addr) (L c : Nat) (es : List (Int × Int)) (w : World) (h : Ents w a L es) :
    Calls Try.prog 4 #[.slice a L c] w fun e w' => e = .returned (.bool true) ∧ Below w.heap.size w w' := by
  have hmax := h.2.1
  unfold maxLen at hmax
  have hl := h.1
  have H := Lib.hid h
  clear h
  by_cases hL : (1000 : Int) < (L : Int)
  · clear hl
    go_enter Try.func4, Try.ntmps4
    go_wp2
    go_ret
    exact ⟨rfl, Below.refl _ _⟩
  · subst hl
    go_enter Try.func4, Try.ntmps4
    go_wp2_with fail
    refine (encode_any H.out _ (by omega)).mono ?_
    rintro e w1 ⟨v1, bs, er, rfl, O1, h1, b1⟩
    have B1 := Lib.hid b1
    have HO1 := Lib.hid O1
    have H1 := Lib.hid h1
    clear b1 O1 h1
    go_wp2_with fail
    refine (rencode_any (H.out.below B1.out) _ (by omega)).mono ?_
    rintro e w2 ⟨v2, bs', er', rfl, O2, h2, b2⟩
    obtain ⟨rfl, rfl⟩ := encoded_same H1.out h2
    have B2 := Lib.hid (B1.out.trans (b2.mono B1.out.size))
    obtain ⟨a1, c1, rfl, f1⟩ := (HO1.out.below b2).form
    obtain ⟨a2, c2, rfl, f2⟩ := O2.form
    have F1 := Lib.hid f1
    have F2 := Lib.hid f2
    clear b2 O2 h2 f1 f2 B1 HO1 H1
    go_wp2_with fail
    refine (awake_any w2).mono ?_
    rintro e w3 ⟨rfl, b3⟩
    have B3 := Lib.hid (B2.out.trans (b3.mono B2.out.size))
    have g1 := F1.out w3 b3
    have g2 := F2.out w3 b3
    clear b3 B2 F1 F2
    go_wp2
    go_ret
    exact ⟨rfl, B3.out⟩
end Go.Proofs.Ytpaacpcmijhcmaa
