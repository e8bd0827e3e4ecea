/-
  The walk of the statement ScriptEnough.
-/
import Derived.Test.YtpaacpcmijhcmaaScLawsD
namespace Go.Proofs.Ytpaacpcmijhcmaa
open Go Go.RowKit

/-- The length of a slice. -/
def sliceLen : Value → Nat
  | .slice _ j _ => j
  | _ => 0
/-- What the first loop of ScriptEnough keeps. -/
def EnoughR (w : World) (N : Nat) (z : Nat) (l i : Value) (wr : World) : Prop :=
  ∃ (k : Nat) (es : List (Int × Int)), k ≤ z ∧ i = .int .i64 k ∧ OwnE wr w.heap.size l es ∧ es.length ≤ 100 * k ∧ k ≤ rnds N [] es ∧ Below w.heap.size w wr

theorem fair_yes {w : World} {a : Option Addr} {L : Nat} {es : List (Int × Int)} (h : Ents w a L es) (c : Nat) (hL : L ≤ 1000000) (n k : Int) (N K : Nat) (hn : n = N) (hk : k = K) (hN : 1 ≤ N) (hN' : N ≤ 1000) (hK : 1 ≤ K) (hK' : K ≤ 1000) (hf : Fairly N K es) :
    Calls Try.prog 22 #[.slice a L c, .int .i64 n, .int .i64 k] w (Gives (.bool true) w) := by
  subst hn
  subst hk
  refine (fair_any h c hL N K (by omega) (by omega)).mono ?_
  rintro e w' ⟨b, rfl, hb, hw⟩
  have : b = true := hb.2 ⟨by omega, by omega, by rw [Int.toNat_natCast]; exact hf⟩
  subst this
  exact ⟨rfl, hw⟩
theorem fair_not {w : World} {a : Option Addr} {L : Nat} {es : List (Int × Int)} (h : Ents w a L es) (c : Nat) (hL : L ≤ 1000000) (n k : Int) (N K : Nat) (hn : n = N) (hk : k = K) (hN' : N ≤ 1000) (hK' : K ≤ 1000) (hf : ¬ Fairly N K es) :
    Calls Try.prog 22 #[.slice a L c, .int .i64 n, .int .i64 k] w (Gives (.bool false) w) := by
  subst hn
  subst hk
  refine (fair_any h c hL N K (by omega) (by omega)).mono ?_
  rintro e w' ⟨b, rfl, hb, hw⟩
  have : b = false := by
    cases b with
    | false => rfl
    | true =>
      obtain ⟨_, _, hx⟩ := hb.1 rfl
      rw [Int.toNat_natCast] at hx
      exact absurd hx hf
  subst this
  exact ⟨rfl, hw⟩
/-- Rounds, its number of machines as it comes. -/
theorem rounds_at {w : World} {a : Option Addr} {L : Nat} {es : List (Int × Int)} (h : Ents w a L es) (c : Nat) (hL : L ≤ 1000000) (n : Int) (N : Nat) (hn : n = N) (hN : 1 ≤ N) :
    Calls Try.prog 20 #[.slice a L c, .int .i64 n] w (Gives (.int .i64 (rnds N [] es)) w) := by
  subst hn
  have := rounds_any h c hL N
  rwa [show rndsOf N es = rnds N [] es from if_neg (by omega)] at this

set_option maxHeartbeats 1600000 in
theorem enough_law (a2 : Option Addr) (L2 c2 : Nat) (rs : List Int) (n m d : Int) (w : World) (h2 : InInts w a2 L2 rs) :
    Calls Try.prog 8 #[.slice a2 L2 c2, .int .i64 n, .int .i64 m, .int .i64 d] w fun e w' => e = .returned (.bool true) ∧ Below w.heap.size w w' := by
  have hmax2 := h2.2.1
  unfold maxLen at hmax2
  have H2 := Lib.hid h2
  clear h2
  by_cases hl : (100 : Int) < (L2 : Int)
  · go_enter Try.func8, Try.ntmps8
    go_wp2
    go_ret
    exact ⟨rfl, Below.refl _ _⟩
  · go_enter Try.func8, Try.ntmps8
    go_wp2_with fail
    refine (number_one n w.heap.size rfl 4 (by omega) (by omega)).mono ?_
    rintro e w1 ⟨y, hy, rfl, b1⟩
    have B1 := Lib.hid b1
    clear b1
    go_wp2_with fail
    refine (number_one m w1.heap.size rfl 20 (by omega) (by omega)).mono ?_
    rintro e w2 ⟨x, hx, rfl, b2⟩
    have B2 := Lib.hid (B1.out.trans (b2.mono B1.out.size))
    clear b2 B1
    go_wp2_with fail
    refine (number_one d w2.heap.size rfl 8 (by omega) (by omega)).mono ?_
    rintro e w3 ⟨z, hz, rfl, b3⟩
    have B3 := Lib.hid (B2.out.trans (b3.mono B2.out.size))
    clear b3 B2 hl
    go_wp2_with fail
    go_loopw [9, 10] (fun l i wr => EnoughR w (y + 1) z l i wr) (fun _ i _ => (z - intOf i).toNat)
    case atStart => exact ⟨0, [], by omega, rfl, OwnE.nil _ _, by simp, by omega, B3.out⟩
    case round =>
      obtain ⟨k, fs, hk, rfl, hown, hlen, hr, hb⟩ := hrel
      obtain ⟨al, cl, rfl, hE, hcl⟩ := hown.ents
      have HO := Lib.hid hown
      have HE := Lib.hid hE
      have HR := Lib.hid hr
      have HB2 := Lib.hid hb
      clear hown hE hb B3 hr
      by_cases hgo : k < z
      · go_wp2_with fail
        refine (round_at (H2.out.below HB2.out) _ ((k : Int) * 5) (1 + (y : Int)) (k * 5) (y + 1) (by omega) (by omega) (by omega) (by omega) (by omega)).mono ?_
        rintro e w5 ⟨v5, gs, rfl, O5, hcomp, hg5, b5⟩
        have B5 := HB2.out.trans (b5.mono HB2.out.size)
        have HO5 := HO.out.below b5
        obtain ⟨a5, c5, rfl, E5, _⟩ := O5.ents
        have hs5 := B5.size
        have hb5 : fs.length + gs.length ≤ 1000000 := by omega
        have HR5 := Lib.hid (Nat.le_trans (Nat.succ_le_succ HR.out) (rnds_behind hcomp fs []))
        clear b5 O5 HB2 HO HE HR hcomp
        go_wp2_with
          (at_builtin
           refine wpList_app (v := .slice al fs.length cl) rfl _ _ rfl rfl HO5 rfl E5 hb5 hs5 ?_
           intro v6 w6 hown6 hg6 _
           have HB6 := Lib.hid (below_app B5 HO5 hg6)
           have HO6 := Lib.hid hown6
           clear hown6 hg6 B5 HO5 E5 hs5)
        go_roundw
        case rel => exact ⟨k + 1, _, by omega, by go_num, HO6.out, by rw [List.length_append]; omega, HR5.out, HB6.out⟩
        case measure => simp [intOf]; omega
      · obtain rfl : k = z := by omega
        go_wp2_with fail
        refine (awake_any _).mono ?_
        rintro e w5 ⟨rfl, b5⟩
        have B5 := Lib.hid (HB2.out.trans (b5.mono HB2.out.size))
        have HE5 := Lib.hid (HE.out.below b5)
        clear b5 HB2 HO HE
        go_wp2_with fail
        obtain ⟨R, hR⟩ : ∃ R, rnds ((y + 1 : Nat) : Int) [] fs = R := ⟨_, rfl⟩
        have hrk : (k : Int) ≤ (R : Int) := by
          have := HR.out
          rw [hR] at this
          omega
        have HRR := Lib.hid hR
        clear hR
        refine (rounds_at HE5.out _ (by omega) (1 + (y : Int)) (y + 1) (by omega) (by omega)).mono ?_
        rintro e w6 ⟨rfl, b6⟩
        have B6 := Lib.hid (B5.out.trans (b6.mono B5.out.size))
        have HE6 := Lib.hid (HE5.out.below b6)
        rw [HRR.out]
        clear b6 B5 HE5
        go_wp2_with fail
        go_loopw [9] (fun l wr => wr = w6 ∧ ∃ j : Nat, j ≤ fs.length ∧ l = .slice al j cl) (fun l _ => sliceLen l)
        case atStart => exact ⟨rfl, _, Nat.le_refl _, rfl⟩
        case round =>
          obtain ⟨rfl, j, hj, rfl⟩ := hrel
          have hx0 : (0 : Int) < 1 + (x : Int) := by omega
          by_cases hgo2 : 0 < j ∧ ¬ (j : Int) % (1 + (x : Int)) = 0
          · obtain ⟨hj0, hmod⟩ := hgo2
            have hmod' : ((j : Int) % (1 + (x : Int)) == 0) = false := by simpa using hmod
            have hj1 : (0 : Int) < (j : Int) := by omega
            go_wp2_with fail
            go_roundw
            case rel =>
              (repeat apply Exists.intro)
              exact ⟨trivial, j - 1, by omega, rfl⟩
            case measure => simp [sliceLen]; omega
          · have hend : (j : Int) ≤ 0 ∨ ((0 : Int) < (j : Int) ∧ (j : Int) % (1 + (x : Int)) = 0) := by omega
            have hdiv : j % (x + 1) = 0 := by
              rcases hend with h | ⟨_, h⟩
              · obtain rfl : j = 0 := by omega
                exact Nat.zero_mod _
              · have : ((j % (x + 1) : Nat) : Int) = 0 := by
                  rw [Int.natCast_emod, show ((x + 1 : Nat) : Int) = 1 + (x : Int) by omega]
                  exact h
                omega
            obtain ⟨q, hq⟩ : ∃ q : Nat, j = q * (x + 1) := ⟨j / (x + 1), by
              have := Nat.div_add_mod j (x + 1)
              rw [hdiv, Nat.add_zero, Nat.mul_comm] at this
              exact this.symm⟩
            have hqi : (j : Int) / (1 + (x : Int)) = (q : Int) := by
              rw [hq, Int.natCast_mul, show ((x + 1 : Nat) : Int) = 1 + (x : Int) by omega]
              exact Int.mul_ediv_cancel _ (by omega)
            have hj6 : j ≤ 1000000 := by omega
            have HQ := Lib.hid hq
            have hq6 : q ≤ j := by rw [hq]; exact Nat.le_mul_of_pos_right q (by omega)
            have HW := Lib.hid (IntWalk.i64_in (q : Int) ⟨by omega, by omega⟩)
            have HE7 := Lib.hid ((HE6.out.front j hj).drew)
            have HJ := Lib.hid hj
            have hfl : (fs.take j).length = j := by rw [List.length_take]; omega
            have HFL := Lib.hid hfl
            clear hgo2 hdiv hq hfl hrk hlen hj
            rcases hend with hend | ⟨hend, hmod⟩
            all_goals
              by_cases hf : Fairly ((y + 1 : Nat) : Int) (x + 1) (fs.take j)
              · have HF := Lib.hid hf
                clear hf
                obtain ⟨S, hS⟩ : ∃ S, rnds ((y + 1 : Nat) : Int) [] (fs.take j) = S := ⟨_, rfl⟩
                have hqs : (q : Int) ≤ (S : Int) := by
                  have := HF.out.rounds q _ (by rw [HFL.out]; exact HQ.out)
                  omega
                have HS := Lib.hid hS
                have hx1 : ¬ (1 + (x : Int) = 0) := by omega
                clear hS
                go_wp2_with fail
                go_region_held3 (fun _ => True) (trivial)
                  (first
                    | (go_at_call 22
                       refine (fair_yes HE7.out _ (by omega) _ _ (y + 1) (x + 1) (by omega) (by omega) (by omega) (by omega) (by omega) (by omega) HF.out).mono ?_
                       rintro e w8 ⟨rfl, b8⟩
                       have B8 := Lib.hid ((below_drew B6.out).trans (b8.mono B6.out.size))
                       have HE8 := Lib.hid (HE7.out.below b8)
                       clear b8)
                    | (go_at_call 20
                       refine (rounds_at HE8.out _ (by omega) _ (y + 1) (by omega) (by omega)).mono ?_
                       rw [HS.out]
                       rintro e w9 ⟨rfl, b9⟩
                       have B9 := Lib.hid (B8.out.trans (b9.mono B8.out.size))
                       clear b9))
                all_goals
                  go_wp2
                  go_ret
                  refine ⟨?_, B9.out⟩
                  have hd : decide (IntKind.i64.wrap (q : Int) ≤ (S : Int)) = true := decide_eq_true (by rw [HW.out]; exact hqs)
                  exact congrArg (fun b => Ending.returned (Value.bool b)) hd
              · have HF := Lib.hid hf
                clear hf
                go_wp2_with fail
                refine wp_region_any (by kernel_rfl) ?_
                change wpAny _ _ _ _ 16 #[false, false, false, false, false, false, false, false, false, false, false, false, false, false, false, false] _ (World.drew _)
                refine wpAny_take (i := 0) (v := .slice al j cl) rfl (by kernel_rfl) (by kernel_rfl) (by kernel_rfl) (fun _ _ _ h => h) (Or.inl ⟨by rfl, fun w => by go_simp⟩) ?_
                simp only [List.getElem_toArray, List.getElem_cons_zero, Act.put, List.setIfInBounds_toArray, List.set_cons_zero, List.set_cons_succ]
                refine wpAny_take (i := 1) (v := .int .i64 (1 + (y : Int))) rfl (by kernel_rfl) (by kernel_rfl) (by kernel_rfl) (fun _ _ _ h => h) (Or.inl ⟨by rfl, fun w => by go_simp⟩) ?_
                simp only [List.getElem_toArray, List.getElem_cons_succ, List.getElem_cons_zero, Act.put, List.setIfInBounds_toArray, List.set_cons_zero, List.set_cons_succ]
                refine wpAny_take (i := 2) (v := .int .i64 (1 + (x : Int))) rfl (by kernel_rfl) (by kernel_rfl) (by kernel_rfl) (fun _ _ _ h => h) (Or.inl ⟨by rfl, fun w => by go_simp⟩) ?_
                simp only [List.getElem_toArray, List.getElem_cons_succ, List.getElem_cons_zero, Act.put, List.setIfInBounds_toArray, List.set_cons_zero, List.set_cons_succ]
                refine wpAny_ready (rs := [3]) (by kernel_rfl) (by simp) ?_
                refine AllReady.cons rfl (fun K hK => ?_) AllReady.nil
                go_simp
                go_at_call 22
                refine (fair_not HE7.out _ (by omega) _ _ (y + 1) (x + 1) (by omega) (by omega) (by omega) (by omega) HF.out).mono ?_
                rintro e w8 ⟨rfl, b8⟩
                have B8 := Lib.hid ((below_drew B6.out).trans (b8.mono B6.out.size))
                clear b8
                refine hK _ _ ?_
                clear hK K
                simp only [List.setIfInBounds_toArray, List.set_cons_zero, List.set_cons_succ]
                refine wpAny_take (i := 4) (v := .bool true) rfl (by kernel_rfl) (by kernel_rfl) (by kernel_rfl) (fun _ _ _ h => h) (Or.inl ⟨by rfl, fun w => by go_simp⟩) ?_
                simp only [List.getElem_toArray, List.getElem_cons_succ, List.getElem_cons_zero, Act.put, List.setIfInBounds_toArray, List.set_cons_zero, List.set_cons_succ]
                refine wpAny_take (i := 5) (v := .bool true) rfl (by kernel_rfl) (by kernel_rfl) (by kernel_rfl) (fun _ _ _ h => h) (Or.inl ⟨by rfl, fun w => by go_simp⟩) ?_
                simp only [List.getElem_toArray, List.getElem_cons_succ, List.getElem_cons_zero, Act.put, List.setIfInBounds_toArray, List.set_cons_zero, List.set_cons_succ]
                refine wpAny_take (i := 6) (v := undef) rfl (by kernel_rfl) (by kernel_rfl) (by kernel_rfl) (fun _ _ _ h => h) (Or.inr ⟨by rfl, rfl⟩) ?_
                simp only [List.getElem_toArray, List.getElem_cons_succ, List.getElem_cons_zero, Act.put, List.setIfInBounds_toArray, List.set_cons_zero, List.set_cons_succ]
                refine wpAny_take (i := 7) (v := undef) rfl (by kernel_rfl) (by kernel_rfl) (by kernel_rfl) (fun _ _ _ h => h) (Or.inr ⟨by rfl, rfl⟩) ?_
                simp only [List.getElem_toArray, List.getElem_cons_succ, List.getElem_cons_zero, Act.put, List.setIfInBounds_toArray, List.set_cons_zero, List.set_cons_succ]
                refine wpAny_take (i := 8) (v := undef) rfl (by kernel_rfl) (by kernel_rfl) (by kernel_rfl) (fun _ _ _ h => h) (Or.inr ⟨by rfl, rfl⟩) ?_
                simp only [List.getElem_toArray, List.getElem_cons_succ, List.getElem_cons_zero, Act.put, List.setIfInBounds_toArray, List.set_cons_zero, List.set_cons_succ]
                refine wpAny_take (i := 9) (v := undef) rfl (by kernel_rfl) (by kernel_rfl) (by kernel_rfl) (fun _ _ _ h => h) (Or.inr ⟨by rfl, rfl⟩) ?_
                simp only [List.getElem_toArray, List.getElem_cons_succ, List.getElem_cons_zero, Act.put, List.setIfInBounds_toArray, List.set_cons_zero, List.set_cons_succ]
                refine wpAny_take (i := 10) (v := undef) rfl (by kernel_rfl) (by kernel_rfl) (by kernel_rfl) (fun _ _ _ h => h) (Or.inr ⟨by rfl, rfl⟩) ?_
                simp only [List.getElem_toArray, List.getElem_cons_succ, List.getElem_cons_zero, Act.put, List.setIfInBounds_toArray, List.set_cons_zero, List.set_cons_succ]
                refine wpAny_take (i := 11) (v := undef) rfl (by kernel_rfl) (by kernel_rfl) (by kernel_rfl) (fun _ _ _ h => h) (Or.inr ⟨by rfl, rfl⟩) ?_
                simp only [List.getElem_toArray, List.getElem_cons_succ, List.getElem_cons_zero, Act.put, List.setIfInBounds_toArray, List.set_cons_zero, List.set_cons_succ]
                refine wpAny_take (i := 12) (v := undef) rfl (by kernel_rfl) (by kernel_rfl) (by kernel_rfl) (fun _ _ _ h => h) (Or.inr ⟨by rfl, rfl⟩) ?_
                simp only [List.getElem_toArray, List.getElem_cons_succ, List.getElem_cons_zero, Act.put, List.setIfInBounds_toArray, List.set_cons_zero, List.set_cons_succ]
                refine wpAny_take (i := 13) (v := undef) rfl (by kernel_rfl) (by kernel_rfl) (by kernel_rfl) (fun _ _ _ h => h) (Or.inr ⟨by rfl, rfl⟩) ?_
                simp only [List.getElem_toArray, List.getElem_cons_succ, List.getElem_cons_zero, Act.put, List.setIfInBounds_toArray, List.set_cons_zero, List.set_cons_succ]
                refine wpAny_take (i := 14) (v := .bool true) rfl (by kernel_rfl) (by kernel_rfl) (by kernel_rfl) (fun _ _ _ h => h) (Or.inl ⟨by rfl, fun w => by go_simp⟩) ?_
                simp only [List.getElem_toArray, List.getElem_cons_succ, List.getElem_cons_zero, Act.put, List.setIfInBounds_toArray, List.set_cons_zero, List.set_cons_succ]
                refine wpAny_take (i := 15) (v := .bool true) rfl (by kernel_rfl) (by kernel_rfl) (by kernel_rfl) (fun _ _ _ h => h) (Or.inl ⟨by rfl, fun w => by go_simp⟩) ?_
                simp only [List.getElem_toArray, List.getElem_cons_succ, List.getElem_cons_zero, Act.put, List.setIfInBounds_toArray, List.set_cons_zero, List.set_cons_succ]
                refine wpAny_done (by kernel_rfl) ?_ _
                go_wp2
                go_ret
                exact ⟨rfl, B8.out⟩
end Go.Proofs.Ytpaacpcmijhcmaa
