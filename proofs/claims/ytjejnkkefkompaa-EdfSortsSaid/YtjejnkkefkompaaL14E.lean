/-
  The walk of the statement EdfSorts: it returns true.
-/
import Derived.Test.YtjejnkkefkompaaSrtN
import Derived.Test.YtjejnkkefkompaaEdP
namespace Go.Proofs.Ytjejnkkefkompaa
open Go Go.RowKit
set_option linter.unusedSimpArgs false
set_option linter.unusedVariables false

/-- What the second loop keeps. -/
def PopI (X O Y : List Int) : Prop := (O ++ Y).Perm X ∧ O.Pairwise (fun x y => x ≤ y) ∧ (∀ a ∈ O, ∀ b ∈ Y, a ≤ b) ∧ HeapE Y
theorem PopI.next {X O Y : List Int} (h : PopI X O Y) (h0 : 0 < Y.length) : PopI X (O ++ [elt Y 0]) (popE Y) := by
  obtain ⟨h1, h2, h3, h4⟩ := h
  have hp := popE_perm h0
  have hm : elt Y 0 ∈ Y := elt_mem h0
  refine ⟨?_, ?_, ?_, popE_heap h4⟩
  · rw [List.append_assoc]
    exact (List.Perm.append_left O hp).trans h1
  · rw [List.pairwise_append]
    refine ⟨h2, List.pairwise_singleton _ _, fun a ha b hb => ?_⟩
    rw [List.mem_singleton.1 hb]
    exact h3 a ha _ hm
  · intro a ha b hb
    rw [List.mem_append] at ha
    rcases ha with ha | ha
    · exact h3 a ha b (hp.mem_iff.1 (List.mem_cons_of_mem _ hb))
    · rw [List.mem_singleton.1 ha]
      obtain ⟨i, hi, rfl⟩ := List.mem_iff_getElem.1 hb
      have := pop_min h4 i (by rw [← popE_len]; exact hi)
      have e : elt (popE Y) i = (popE Y)[i] := by
        unfold elt
        rw [List.getD_eq_getElem?_getD, List.getElem?_eq_getElem hi]
        rfl
      rw [← e]
      exact this
theorem ne_own {w : World} {B g : Nat} {v : Value} {O : List Int} (h : OwnW w B v O) (hg : w.heap.size ≤ g) : v.ownBlock ≠ some g := fun e => by
  have := (h.lt g e).2
  omega
set_option maxRecDepth 100000 in
set_option maxHeartbeats 4000000 in
theorem sorts14_law {W : World} {v : Value} {X : List Int} (h : WV W v X) :
    Calls Try.prog 7 #[v] W fun e W' => e = .returned (.bool true) ∧ Below W.heap.size W W' := by
  have HV := Lib.hid h
  obtain ⟨a, n, c, rfl, hi, _, _⟩ := h
  have hn := Lib.hid hi.1
  have H := Lib.hid hi
  clear hi
  by_cases hbig : 400 < n
  · have d1 : decide (400 < (n : Int)) = true := decide_eq_true (by omega)
    go_enter Try.func7, Try.ntmps7
    go_wp2
    go_ret
    exact ⟨rfl, Below.refl _ _⟩
  have d1 : decide (400 < (n : Int)) = false := decide_eq_false (by omega)
  have HL := Lib.hid (show X.length ≤ 900 by rw [hn.out]; omega)
  go_enter Try.func7, Try.ntmps7
  go_wp2_with fail
  go_loopw [3, 5] (fun hv i wr => ∃ (j : Nat) (Y : List Int), j ≤ n ∧ i = .int .i64 j ∧ WV wr hv Y ∧ HeapE Y ∧ Y.Perm (X.take j) ∧ Y.length = j ∧ Below W.heap.size W wr) (fun _ i _ => n - (intOf i).toNat)
  case atStart => exact ⟨0, [], by omega, rfl, WV.nil _, fun j hj hl => absurd hl (by simp), List.Perm.refl _, rfl, Below.refl _ _⟩
  case round =>
    obtain ⟨j, Y, hj, rfl, hv, hh, hp, hy, hb⟩ := hrel
    have HY := Lib.hid (And.intro hv (And.intro hh (And.intro hp hy)))
    have HB := Lib.hid hb
    clear hv hh hp hy
    by_cases hlt : j < n
    · have dj : decide ((j : Int) < (n : Int)) = true := decide_eq_true (by omega)
      obtain ⟨x, rfl, hxb, hx⟩ := H.out.2.2 j hlt
      have hx2 : wr.cell? (x.add j) = some (.int .u64 (elt X j)) := (hb.cell (by rw [block_add]; exact hxb)).trans hx
      clear hx hb
      obtain ⟨u, hu⟩ : ∃ u, elt X j = u := ⟨_, rfl⟩
      rw [hu] at hx2
      have HU := Lib.hid hu
      clear hu
      go_wp2_with fail
      (with_reducible refine (epush_any u HY.out.1 (by have := HY.out.2.2.2; omega)).mono ?_)
      rintro e w2 ⟨v2, rfl, hn2⟩
      have HB2 := Lib.hid (HB.out.trans (hn2.b.mono HB.out.size))
      have HN2 := Lib.hid hn2.wv
      clear hn2 HB hx2
      go_wp2_with fail
      go_roundw
      case rel => exact ⟨j + 1, pushE Y u, by omega, by go_num, HN2.out, pushE_heap HY.out.2.1, (pushE_perm Y u).trans (by rw [take_one hn.out hlt, HU.out]; exact List.Perm.append_right _ HY.out.2.2.1), by rw [pushE_len, HY.out.2.2.2], HB2.out⟩
      case measure => simp [intOf] <;> omega
    · obtain rfl : j = n := by omega
      have dj : decide ((j : Int) < (j : Int)) = false := by simp
      have e1 : X.take j = X := List.take_of_length_le (by rw [hn.out]; exact Nat.le_refl _)
      have HY2 := Lib.hid (show Y.Perm X by have := HY.out.2.2.1; rw [e1] at this; exact this)
      clear e1 hb
      go_wp2_with fail
      go_loopw [3, 4, 26] (fun hv ov i wr => ∃ (k : Nat) (Z O : List Int), k ≤ j ∧ i = .int .i64 k ∧ WV wr hv Z ∧ OwnW wr W.heap.size ov O ∧ PopI X O Z ∧ O.length = k ∧ Z.length + k = j ∧ Below W.heap.size W wr) (fun _ _ i _ => j - (intOf i).toNat)
      case atStart => exact ⟨0, Y, [], by omega, rfl, HY.out.1, OwnW.nil _ _, ⟨HY2.out, List.Pairwise.nil, fun a ha => absurd ha List.not_mem_nil, HY.out.2.1⟩, rfl, by have := HY.out.2.2.2; omega, HB.out⟩
      case round =>
        obtain ⟨k, Z, O, hk, rfl, hz, ho, hpi, hol, hzl, hb⟩ := hrel
        have HZ := Lib.hid hz
        have HO := Lib.hid ho
        have HPI := Lib.hid hpi
        have HOL := Lib.hid hol
        have HB := Lib.hid hb
        clear ho hpi hol hb HY HY2
        by_cases hlt2 : k < j
        · have dk : decide ((k : Int) < (j : Int)) = true := decide_eq_true (by omega)
          have hz0 : 0 < Z.length := by omega
          have HZL := Lib.hid hzl
          clear hz hzl
          go_wp2_with fail
          (with_reducible refine (epop_any HZ.out hz0 (by have := HZL.out; omega)).mono ?_)
          rintro e w2 ⟨v2, rfl, hn2⟩
          have HNX := Lib.hid (HPI.out.next hz0)
          obtain ⟨u, hu⟩ : ∃ u, elt Z 0 = u := ⟨_, rfl⟩
          rw [hu] at HNX
          rw [hu]
          clear hu
          have hb2 := hn2.b
          obtain ⟨g, zn, zc, rfl, hg, hrow, _⟩ := hn2
          have hr2 : Row (w2.alloc (.cells #[.int .u64 u] 23)) g zn zc (popE Z) := hrow.of_same ((below_one w2 _).block g hrow.lt)
          have HR2 := Lib.hid hr2
          have HNE := Lib.hid (ne_own HO.out hg)
          have HB2 := Lib.hid (HB.out.trans ((hb2.trans ((below_one w2 (.cells #[.int .u64 u] 23)).mono hb2.size)).mono HB.out.size))
          have HO2 := Lib.hid ((HO.out.below hb2).alloc (.cells #[.int .u64 u] 23))
          have HN1 : Hid (WV (w2.alloc (.cells #[.int .u64 u] 23)) (.slice (some ⟨w2.heap.size, 0, none⟩) 1 1) [u]) := Lib.hid ((OwnW.lit w2 w2.heap.size [u] (Nat.le_refl _) (by unfold maxLen; simp)).wv)
          have HPL := Lib.hid (popE_len Z)
          clear hb2 hrow hr2 hg HB HO
          go_wp2_with (at_builtin; refine Hid.out ?_)
          refine Lib.hid ?_
          refine wpList_appUN rfl _ _ rfl rfl HO2.out rfl HN1.out (by have := HOL.out; simp; omega) HB2.out.size ?_
          intro v3 w3 ho3 hg3 _
          have HO3 := Lib.hid ho3
          have hb3 := below_appU HB2.out HO2.out (Nat.le_refl _) hg3
          have HB3 := Lib.hid hb3
          have hr3 : Row w3 g zn zc (popE Z) := HR2.out.of_same (hg3.block g HR2.out.lt HNE.out.symm)
          have HN3 := Lib.hid hr3.wv
          clear ho3 hg3 hb3 hr3 HO2 HB2 HN1 HR2
          go_wp2_with fail
          go_roundw
          case rel => exact ⟨k + 1, popE Z, O ++ [u], by omega, by go_num, HN3.out, HO3.out, HNX.out, by simp [HOL.out], by have := HPL.out; have := HZL.out; omega, HB3.out⟩
          case measure => simp [intOf] <;> omega
        · obtain rfl : k = j := by omega
          have dk : decide ((k : Int) < (k : Int)) = false := by simp
          have hZ : Z = [] := List.eq_nil_of_length_eq_zero (by omega)
          subst hZ
          have hO : O = srtE X := srt_eq (by have := HPI.out.1; rw [List.append_nil] at this; exact this) HPI.out.2.1
          subst hO
          obtain ⟨za, zn, zc, rfl, zi, _, _⟩ := hz
          obtain rfl : zn = 0 := zi.1.symm
          have HVr := Lib.hid (HV.out.below HB.out)
          have HOr := Lib.hid HO.out.wv
          clear zi hzl HO HPI
          go_wp2_with fail
          (with_reducible refine (awake14_any _).mono ?_)
          rintro e w2 ⟨rfl, b2⟩
          have HV2 := Lib.hid (HVr.out.below b2)
          have HO2 := Lib.hid (HOr.out.below b2)
          have HB2 := Lib.hid (HB.out.trans (b2.mono HB.out.size))
          clear b2 HVr HOr HB
          go_wp2_with fail
          (with_reducible refine (rsorted_any HV2.out HL.out).mono ?_)
          rintro e w3 ⟨v3, rfl, hv3, b3⟩
          have HS3 := Lib.hid hv3
          have HV3 := Lib.hid (HV2.out.below b3)
          have HO3 := Lib.hid (HO2.out.below b3)
          have HB3 := Lib.hid (HB2.out.trans (b3.mono HB2.out.size))
          clear hv3 b3 HV2 HO2 HB2
          go_wp2_with fail
          (with_reducible refine (wsamev_any HO3.out HS3.out).mono ?_)
          rintro e w4 ⟨rfl, b4⟩
          have HV4 := Lib.hid (HV3.out.below b4)
          have HO4 := Lib.hid (HO3.out.below b4)
          have HB4 := Lib.hid (HB3.out.trans (b4.mono HB3.out.size))
          clear b4 HV3 HO3 HB3 HS3
          go_wp2_with fail
          (with_reducible refine (esorted_any HV4.out HL.out).mono ?_)
          rintro e w5 ⟨v5, rfl, hn5⟩
          have HS5 := Lib.hid hn5.wv
          have HO5 := Lib.hid (HO4.out.below hn5.b)
          have HB5 := Lib.hid (HB4.out.trans (hn5.b.mono HB4.out.size))
          clear hn5 HV4 HO4 HB4
          go_wp2_with fail
          (with_reducible refine (wsamev_any HO5.out HS5.out).mono ?_)
          rintro e w6 ⟨rfl, b6⟩
          go_wp2
          go_ret
          exact ⟨rfl, HB5.out.trans (b6.mono HB5.out.size)⟩
end Go.Proofs.Ytjejnkkefkompaa
