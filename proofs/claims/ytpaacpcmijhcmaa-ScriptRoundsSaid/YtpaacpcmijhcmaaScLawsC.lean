/-
  The walks of the statements ScriptRounds and ScriptFair.
-/
import Derived.Test.YtpaacpcmijhcmaaScLawsA
import Derived.Test.YtpaacpcmijhcmaaScRound
namespace Go.Proofs.Ytpaacpcmijhcmaa
open Go Go.RowKit

/-- A number in a row of its own. -/
theorem int_lit (w : World) (z : Int) : InInts (w.alloc (.cells #[.int .i64 z] 3)) (some ⟨w.heap.size, 0, none⟩) 1 [z] := by
  refine ⟨rfl, by unfold maxLen; omega, fun i hi => ?_⟩
  obtain rfl : i = 0 := by omega
  exact ⟨_, rfl, by simp, (Blk.made w 3 #[.int .i64 z]).at_ 0⟩
/-- Number of one number. -/
theorem number_one {w : World} (z : Int) (g : Nat) (hg : w.heap.size = g) (n : Int) (hn : 1 ≤ n) (hn' : n ≤ 1000000) :
    Calls Try.prog 18 #[.slice (some ⟨g, 0, none⟩) 1 1, .int .i64 0, .int .i64 n] (w.alloc (.cells #[.int .i64 z] 3)) fun e w' => ∃ y : Nat, (y : Int) < n ∧ e = .returned (.int .i64 y) ∧ Below w.heap.size w w' := by
  subst hg
  have := number_any (int_lit w z) 1 0 (by omega) n hn hn'
  refine this.mono ?_
  rintro e w' ⟨y, hy, rfl, m, rfl⟩
  exact ⟨y, hy, rfl, (below_one w _).trans ((below_drewN _ m).mono (by simp))⟩

/-- Round, its numbers as they come. -/
theorem round_at {w : World} {a : Option Addr} {L : Nat} {zs : List Int} (h : InInts w a L zs) (c : Nat) (q m : Int) (p n : Nat) (hq : q = p) (hm : m = n) (hp : p ≤ 1000) (hn : 1 ≤ n) (hn' : n ≤ 1000) :
    Calls Try.prog 19 #[.slice a L c, .int .i64 q, .int .i64 m] w (Rounded n w) := by
  subst hq
  subst hm
  exact round_any h c p hp n hn hn'

/-- What the loop of ScriptRounds keeps. -/
def LRoundsR (w : World) (L : Nat) (l i : Value) (wr : World) : Prop :=
  ∃ (k : Nat) (es : List (Int × Int)), k ≤ L ∧ k ≤ 8 ∧ i = .int .i64 k ∧ OwnE wr w.heap.size l es ∧ es.length ≤ 2000 + 100 * k ∧ Below w.heap.size w wr

set_option maxHeartbeats 1000000 in
theorem rounds_law (a : Option Addr) (L c : Nat) (zs : List Int) (a1 : Option Addr) (L1 c1 : Nat) (es : List (Int × Int)) (hc1 : L1 ≤ c1) (a2 : Option Addr) (L2 c2 : Nat) (rs : List Int) (n : Int) (near : Bool) (w : World)
    (h : InBytes w a L zs) (h1 : Ents w a1 L1 es) (h2 : InInts w a2 L2 rs) (hn : n ≤ 9223372036854775807) :
    Calls Try.prog 6 #[.slice a L c, .slice a1 L1 c1, .slice a2 L2 c2, .int .i64 n, .bool near] w fun e w' => e = .returned (.bool true) ∧ Below w.heap.size w w' := by
  have hmax := h.2.1
  have hmax1 := h1.2.1
  have hmax2 := h2.2.1
  unfold maxLen at hmax hmax1 hmax2
  have H := Lib.hid h
  have H1 := Lib.hid h1
  have H2 := Lib.hid h2
  have HN := Lib.hid hn
  have hcell : (w.alloc (.cells #[.slice a2 L2 c2] 33)).cell? ⟨w.heap.size, 0, none⟩ = some (.slice a2 L2 c2) := (Blk.made w 33 #[.slice a2 L2 c2]).at_ 0
  have HS := Lib.hid (short_any hcell a L c)
  have HB := Lib.hid (below_one w (.cells #[.slice a2 L2 c2] 33))
  clear h h1 h2 hn hcell
  by_cases hs : (decide ((L : Int) ≤ 400) && decide ((L2 : Int) ≤ 400)) = true
  · rw [hs] at HS
    simp only [Bool.and_eq_true, decide_eq_true_eq] at hs
    obtain ⟨hs1, hs2⟩ := hs
    by_cases hl : (200 : Int) < (L1 : Int)
    · go_enter Try.func6, Try.ntmps6
      go_wp2_with fail
      refine HS.out.mono ?_
      rintro e w' ⟨rfl, rfl⟩
      go_wp2
      go_ret
      exact ⟨rfl, HB.out⟩
    · cases near with
      | false =>
        go_enter Try.func6, Try.ntmps6
        go_wp2_with fail
        refine HS.out.mono ?_
        rintro e w' ⟨rfl, rfl⟩
        go_wp2_with fail
        refine (awake_any _).mono ?_
        rintro e w2 ⟨rfl, b2⟩
        have B2 := Lib.hid (HB.out.trans (b2.mono HB.out.size))
        clear b2 HB
        go_wp2_with fail
        refine (rounds_any (H1.out.below B2.out) _ (by omega) n).mono ?_
        rintro e w3 ⟨rfl, b3⟩
        have B3 := Lib.hid (B2.out.trans (b3.mono B2.out.size))
        clear b3 B2
        go_wp2_with fail
        refine (rrounds_any (H1.out.below B3.out) _ hc1 (by omega) n HN.out).mono ?_
        rintro e w4 ⟨rfl, b4⟩
        have B4 := Lib.hid (B3.out.trans (b4.mono B3.out.size))
        clear b4 B3
        go_wp2
        go_ret
        exact ⟨rfl, B4.out⟩
      | true =>
        go_enter Try.func6, Try.ntmps6
        go_wp2_with fail
        refine HS.out.mono ?_
        rintro e w' ⟨rfl, rfl⟩
        go_wp2_with fail
        refine (number_one n (w.heap.size + 1) (by simp) 5 (by omega) (by omega)).mono ?_
        rintro e w2 ⟨y, hy, rfl, b2⟩
        have B2 := Lib.hid (HB.out.trans (b2.mono HB.out.size))
        clear b2 HB
        go_wp2_with fail
        refine (rdecode_any (H.out.below B2.out) _ (by omega)).mono ?_
        rintro e w3 ⟨v3, rfl, O3, b3⟩
        have B3 := Lib.hid (B2.out.trans (b3.mono B2.out.size))
        have HO3 := Lib.hid (O3.mono B2.out.size)
        have hlen3 : (decS zs).length ≤ 2000 := by
          have := H.out.1
          simp [decS]
          omega
        have HL3 := Lib.hid hlen3
        clear b3 B2 O3 hlen3 hl HS
        go_wp2_with fail
        go_loopw [1, 11] (fun l i wr => LRoundsR w L2 l i wr) (fun _ i _ => (8 - intOf i).toNat)
        case atStart => exact ⟨0, _, by omega, by omega, rfl, HO3.out, HL3.out, B3.out⟩
        case round =>
          obtain ⟨k, fs, hk, hk8, rfl, hown, hlen, hb⟩ := hrel
          obtain ⟨al, cl, rfl, hE, hcl⟩ := hown.ents
          have HO := Lib.hid hown
          have HE := Lib.hid hE
          have HB2 := Lib.hid hb
          clear hown hE hb B3 HO3 HL3
          by_cases hgo : k < L2 ∧ k < 8
          · obtain ⟨hgo1, hgo2⟩ := hgo
            go_wp2_with fail
            refine (round_at (H2.out.below HB2.out) _ ((k : Int) * 3) (1 + (y : Int)) (k * 3) (y + 1) (by omega) (by omega) (by omega) (by omega) (by omega)).mono ?_
            rintro e w5 ⟨v5, gs, rfl, O5, _, hg5, b5⟩
            have B5 := HB2.out.trans (b5.mono HB2.out.size)
            have HO5 := HO.out.below b5
            obtain ⟨a5, c5, rfl, E5, _⟩ := O5.ents
            have hs5 := B5.size
            have hb5 : fs.length + gs.length ≤ 1000000 := by omega
            clear b5 O5 HB2 HO HE
            go_wp2_with
              (at_builtin
               refine wpList_app (v := .slice al fs.length cl) rfl _ _ rfl rfl HO5 rfl E5 hb5 hs5 ?_
               intro v6 w6 hown6 hg6 _
               have HB6 := Lib.hid (below_app B5 HO5 hg6)
               have HO6 := Lib.hid hown6
               clear hown6 hg6 B5 HO5 E5 hs5)
            go_roundw
            case rel => exact ⟨k + 1, _, by omega, by omega, by go_num, HO6.out, by rw [List.length_append]; omega, HB6.out⟩
            case measure => simp [intOf]; omega
          · have hend : (L2 : Int) ≤ k ∨ (k < L2 ∧ k = 8) := by omega
            clear hgo
            rcases hend with hend | ⟨hend, rfl⟩
            all_goals
              go_wp2_with fail
              refine (awake_any _).mono ?_
              rintro e w5 ⟨rfl, b5⟩
              have B5 := Lib.hid (HB2.out.trans (b5.mono HB2.out.size))
              have HE5 := Lib.hid (HE.out.below b5)
              clear b5 HB2 HO HE
              go_wp2_with fail
              refine (rounds_any HE5.out _ (by omega) (1 + (y : Int))).mono ?_
              rintro e w6 ⟨rfl, b6⟩
              have B6 := Lib.hid (B5.out.trans (b6.mono B5.out.size))
              have HE6 := Lib.hid (HE5.out.below b6)
              clear b6 B5 HE5
              go_wp2_with fail
              refine (rrounds_any HE6.out _ hcl (by omega) (1 + (y : Int)) (by omega)).mono ?_
              rintro e w7 ⟨rfl, b7⟩
              have B7 := Lib.hid (B6.out.trans (b7.mono B6.out.size))
              clear b7 B6
              go_wp2
              go_ret
              exact ⟨rfl, B7.out⟩
  · rw [show (decide ((L : Int) ≤ 400) && decide ((L2 : Int) ≤ 400)) = false by simpa using hs] at HS
    go_enter Try.func6, Try.ntmps6
    go_wp2_with fail
    refine HS.out.mono ?_
    rintro e w' ⟨rfl, rfl⟩
    go_wp2
    go_ret
    exact ⟨rfl, HB.out⟩
end Go.Proofs.Ytpaacpcmijhcmaa
