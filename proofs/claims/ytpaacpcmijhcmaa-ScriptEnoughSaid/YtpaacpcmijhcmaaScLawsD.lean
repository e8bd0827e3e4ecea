/-
  The walk of the statement ScriptFair.
-/
import Derived.Test.YtpaacpcmijhcmaaScLawsC
namespace Go.Proofs.Ytpaacpcmijhcmaa
open Go Go.RowKit

theorem bool_iff {p : Prop} {b b' : Bool} (h : b = true ↔ p) (h' : b' = true ↔ p) : b = b' := by
  cases b <;> cases b' <;> simp_all

set_option maxHeartbeats 1600000 in
theorem fair_law (a : Option Addr) (L c : Nat) (zs : List Int) (a1 : Option Addr) (L1 c1 : Nat) (es : List (Int × Int)) (hc1 : L1 ≤ c1) (a2 : Option Addr) (L2 c2 : Nat) (rs : List Int) (n m : Int) (near : Bool) (w : World)
    (h : InBytes w a L zs) (h1 : Ents w a1 L1 es) (h2 : InInts w a2 L2 rs) (hn : n ≤ 9223372036854775807) (hm : m ≤ 9223372036854775807) :
    Calls Try.prog 7 #[.slice a L c, .slice a1 L1 c1, .slice a2 L2 c2, .int .i64 n, .int .i64 m, .bool near] w fun e w' => e = .returned (.bool true) ∧ Below w.heap.size w w' := by
  have hmax := h.2.1
  have hmax1 := h1.2.1
  have hmax2 := h2.2.1
  unfold maxLen at hmax hmax1 hmax2
  have H := Lib.hid h
  have H1 := Lib.hid h1
  have H2 := Lib.hid h2
  have HN := Lib.hid (And.intro hn hm)
  have hcell : (w.alloc (.cells #[.slice a2 L2 c2] 33)).cell? ⟨w.heap.size, 0, none⟩ = some (.slice a2 L2 c2) := (Blk.made w 33 #[.slice a2 L2 c2]).at_ 0
  have HS := Lib.hid (short_any hcell a L c)
  have HB := Lib.hid (below_one w (.cells #[.slice a2 L2 c2] 33))
  clear h h1 h2 hn hm hcell
  by_cases hs : (decide ((L : Int) ≤ 400) && decide ((L2 : Int) ≤ 400)) = true
  · rw [hs] at HS
    simp only [Bool.and_eq_true, decide_eq_true_eq] at hs
    obtain ⟨hs1, hs2⟩ := hs
    by_cases hl : (200 : Int) < (L1 : Int)
    · go_enter Try.func7, Try.ntmps7
      go_wp2_with fail
      refine HS.out.mono ?_
      rintro e w' ⟨rfl, rfl⟩
      go_wp2
      go_ret
      exact ⟨rfl, HB.out⟩
    · cases near with
      | false =>
        go_enter Try.func7, Try.ntmps7
        go_wp2_with fail
        refine HS.out.mono ?_
        rintro e w' ⟨rfl, rfl⟩
        go_wp2_with fail
        refine (awake_any _).mono ?_
        rintro e w2 ⟨rfl, b2⟩
        have B2 := Lib.hid (HB.out.trans (b2.mono HB.out.size))
        clear b2 HB
        go_wp2_with fail
        refine (fair_any (H1.out.below B2.out) _ (by omega) n m HN.out.1 HN.out.2).mono ?_
        rintro e w3 ⟨q, rfl, hq, b3⟩
        have B3 := Lib.hid (B2.out.trans (b3.mono B2.out.size))
        have HQ := Lib.hid hq
        clear b3 B2 hq
        go_wp2_with fail
        refine (rfair_any (H1.out.below B3.out) _ hc1 (by omega) n m HN.out.1 HN.out.2).mono ?_
        rintro e w4 ⟨q', rfl, hq', b4⟩
        obtain rfl := bool_iff HQ.out hq'
        have B4 := Lib.hid (B3.out.trans (b4.mono B3.out.size))
        clear b4 B3 HQ hq'
        cases q
        all_goals
          go_wp2
          go_ret
          exact ⟨rfl, B4.out⟩
      | true =>
        go_enter Try.func7, Try.ntmps7
        go_wp2_with fail
        refine HS.out.mono ?_
        rintro e w' ⟨rfl, rfl⟩
        go_wp2_with fail
        refine (number_one n (w.heap.size + 1) (by simp) 4 (by omega) (by omega)).mono ?_
        rintro e w2 ⟨y, hy, rfl, b2⟩
        have B2 := Lib.hid (HB.out.trans (b2.mono HB.out.size))
        clear b2 HB
        go_wp2_with fail
        refine (number_one m w2.heap.size rfl 24 (by omega) (by omega)).mono ?_
        rintro e w3 ⟨x, hx, rfl, b3⟩
        have B3 := Lib.hid (B2.out.trans (b3.mono B2.out.size))
        clear b3 B2 hl HS
        go_wp2_with fail
        go_loopw [1, 13] (fun l i wr => LRoundsR w L2 l i wr) (fun _ i _ => (8 - intOf i).toNat)
        case atStart => exact ⟨0, [], by omega, by omega, rfl, OwnE.nil _ _, by simp, B3.out⟩
        case round =>
          obtain ⟨k, fs, hk, hk8, rfl, hown, hlen, hb⟩ := hrel
          obtain ⟨al, cl, rfl, hE, hcl⟩ := hown.ents
          have HO := Lib.hid hown
          have HE := Lib.hid hE
          have HB2 := Lib.hid hb
          clear hown hE hb B3
          by_cases hgo : k < L2 ∧ k < 8
          · obtain ⟨hgo1, hgo2⟩ := hgo
            go_wp2_with fail
            refine (round_at (H2.out.below HB2.out) _ ((k : Int) * 3) (1 + (y : Int)) (k * 3) (y + 1) (by omega) (by omega) (by omega) (by omega) (by omega)).mono ?_
            rintro e w5 ⟨v5, gs, rfl, O5, _, hg5, b5⟩
            have B5 := HB2.out.trans (b5.mono HB2.out.size)
            have HO5 := HO.out.below b5
            obtain ⟨a5, c5, rfl, E5, _⟩ := O5.ents
            have hs5 := B5.size
            have hb5 : fs.length + gs.length ≤ 1000000 := by omega
            clear b5 O5 HB2 HO HE
            go_wp2_with
              (at_builtin
               refine wpList_app (v := .slice al fs.length cl) rfl _ _ rfl rfl HO5 rfl E5 hb5 hs5 ?_
               intro v6 w6 hown6 hg6 _
               have HB6 := Lib.hid (below_app B5 HO5 hg6)
               have HO6 := Lib.hid hown6
               clear hown6 hg6 B5 HO5 E5 hs5)
            go_roundw
            case rel => exact ⟨k + 1, _, by omega, by omega, by go_num, HO6.out, by rw [List.length_append]; omega, HB6.out⟩
            case measure => simp [intOf]; omega
          · have hend : (L2 : Int) ≤ k ∨ (k < L2 ∧ k = 8) := by omega
            clear hgo
            rcases hend with hend | ⟨hend, rfl⟩
            all_goals
              go_wp2_with fail
              refine (awake_any _).mono ?_
              rintro e w5 ⟨rfl, b5⟩
              have B5 := Lib.hid (HB2.out.trans (b5.mono HB2.out.size))
              have HE5 := Lib.hid (HE.out.below b5)
              clear b5 HB2 HO HE
              go_wp2_with fail
              refine (fair_any HE5.out _ (by omega) (1 + (y : Int)) (1 + (x : Int)) (by omega) (by omega)).mono ?_
              rintro e w6 ⟨q, rfl, hq, b6⟩
              have B6 := Lib.hid (B5.out.trans (b6.mono B5.out.size))
              have HE6 := Lib.hid (HE5.out.below b6)
              have HQ := Lib.hid hq
              clear b6 B5 HE5 hq
              go_wp2_with fail
              refine (rfair_any HE6.out _ hcl (by omega) (1 + (y : Int)) (1 + (x : Int)) (by omega) (by omega)).mono ?_
              rintro e w7 ⟨q', rfl, hq', b7⟩
              obtain rfl := bool_iff HQ.out hq'
              have B7 := Lib.hid (B6.out.trans (b7.mono B6.out.size))
              clear b7 B6 HQ hq' HE6
              cases q
              all_goals
                go_wp2
                go_ret
                exact ⟨rfl, B7.out⟩
  · rw [show (decide ((L : Int) ≤ 400) && decide ((L2 : Int) ≤ 400)) = false by simpa using hs] at HS
    go_enter Try.func7, Try.ntmps7
    go_wp2_with fail
    refine HS.out.mono ?_
    rintro e w' ⟨rfl, rfl⟩
    go_wp2
    go_ret
    exact ⟨rfl, HB.out⟩
end Go.Proofs.Ytpaacpcmijhcmaa
