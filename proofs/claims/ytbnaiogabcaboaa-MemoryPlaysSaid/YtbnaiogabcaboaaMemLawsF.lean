/-
  The walk of the statement MemoryPlays: it returns true.
-/
import Derived.Test.YtbnaiogabcaboaaMemSame
import Derived.Test.YtbnaiogabcaboaaMemAct
import Derived.Test.YtbnaiogabcaboaaMemRows
namespace Go.Proofs.Ytbnaiogabcaboaa
open Go Go.RowKit Go.Shelf

/-- What the loop keeps: both memories are in one state. -/
def PlaysR (W : World) (p g q r n L : Nat) (i : Value) (wr : World) : Prop :=
  ∃ (k : Nat) (s : St), k ≤ L ∧ k ≤ 60 ∧ i = .int .i64 k ∧ s.X.length = n ∧ Mem wr p g n s ∧ Ref wr q r n s ∧ Below W.heap.size W wr

/-- A new block, with the reference's memory by value in it. -/
theorem boxed_ref {w : World} {r n : Nat} (hn : n ≤ 131072) (h : Row w r n n (List.replicate n 0)) :
    Ref (w.alloc (.cells #[.slice (some ⟨r, 0, none⟩) n n, .int .i64 0, .int .i64 0, .int .u64 0, .int .u64 0, .int .i64 0] 30)) w.heap.size r n (St.new n) := by
  refine ⟨?_, ?_, by simpa [St.new] using hn⟩
  · simpa [St.new] using Blk.made w 30 #[.slice (some ⟨r, 0, none⟩) n n, .int .i64 0, .int .i64 0, .int .u64 0, .int .u64 0, .int .i64 0]
  · simpa [St.new] using h.alloc (.cells #[.slice (some ⟨r, 0, none⟩) n n, .int .i64 0, .int .i64 0, .int .u64 0, .int .u64 0, .int .i64 0] 30)

set_option maxHeartbeats 2000000 in
theorem plays_walk (c d : Int) (n : Nat) (hd : sizeS d = n) (hcd : (64 < c ∧ c % 64 = d) ∨ (c ≤ 64 ∧ d = c)) (hd2 : d ≤ 64) (a : Option Addr) (L cap : Nat) (w : World) (hL : InCalls w a L) :
    Calls Try.prog 3 #[.int .i64 c, .slice a L cap] w fun e w' => e = .returned (.bool true) ∧ Below w.heap.size w w' := by
  have hmax := hL.1
  unfold maxLen at hmax
  have HL := Lib.hid hL
  have HN := Lib.hid hd
  have hn : n ≤ 131072 := by
    rw [← hd]
    unfold sizeS
    split
    · omega
    · split <;> omega
  clear hL hd
  rcases hcd with ⟨h1, hcd⟩ | ⟨h1, rfl⟩
  all_goals
    go_enter Try.func3, Try.ntmps3
    go_wp2_with fail
    refine (new_any _ w).mono ?_
    rintro e w1 ⟨rfl, hm1, hb1⟩
    rw [HN.out] at hm1
    go_wp2_with fail
    refine (rnew_any _ w1).mono ?_
    rw [HN.out]
    rintro e w2 ⟨rfl, hr2, hb2⟩
    have hm2 := hm1.fr (Fr.old (S := []) hb2) (by simp) (by simp)
    have hr3 := boxed_ref hn hr2
    have hm3 := hm2.alloc (.cells #[.slice (some ⟨w1.heap.size + 1, 0, none⟩) n n, .int .i64 0, .int .i64 0, .int .u64 0, .int .u64 0, .int .i64 0] 30)
    have hb3 : Below w.heap.size w w2 := hb1.trans (hb2.mono hb1.size)
    have hb3' := hb3.alloc hb3.size (.cells #[.slice (some ⟨w1.heap.size + 1, 0, none⟩) n n, .int .i64 0, .int .i64 0, .int .u64 0, .int .u64 0, .int .i64 0] 30)
    have hs1 := hb1.size
    have hs3 := hb3.size
    clear hm1 hm2 hr2 hb2 hb3 hb1
    go_wp2_with fail
    refine (awake_any _).mono ?_
    rintro e w3 ⟨rfl, hb4⟩
    have hm4 := hm3.fr (Fr.old (S := []) hb4) (by simp) (by simp)
    have hr4 := hr3.fr (Fr.old (S := []) hb4) (by simp) (by simp)
    have hb4' := hb3'.trans (hb4.mono hb3'.size)
    clear hm3 hr3 hb3' hb4
    have hne : w.heap.size ≠ w1.heap.size + 1 := by omega
    have hin : ∀ k, k ∈ [w.heap.size + 1, w.heap.size, w2.heap.size, w1.heap.size + 1] → w.heap.size ≤ k := by simp; omega
    have HIN := Lib.hid hin
    have HNE := Lib.hid hne
    clear hin hne hs1 hs3
    generalize w2.heap.size = q at *
    generalize w1.heap.size + 1 = r at *
    go_wp2_with fail
    go_loopw [7] (fun i wr => PlaysR w (w.heap.size + 1) w.heap.size q r n L i wr) (fun i _ => (60 - intOf i).toNat)
    case atStart => exact ⟨0, _, by omega, by omega, rfl, by simp [St.new], hm4, hr4, hb4'⟩
    case round =>
      obtain ⟨k, s, hk, hk60, rfl, hsn, hms, hrs, hbs⟩ := hrel
      clear hm4 hr4 hb4'
      by_cases hlt : k < L
      · by_cases hl60 : k < 60
        · obtain ⟨x, kd, cl, v, u, rfl, _, g0, g1, g2, g3⟩ := (HL.out.below hbs).2 k hlt
          have HS := Lib.hid hsn
          clear hsn
          have g0' : wr.cell? (x.add (k * 4)) = some (.int .i64 kd) := by simpa using g0
          have g1' := cell_field g1
          have g2' := cell_field g2
          have g3' := cell_field g3
          clear g0 g1 g2 g3
          by_cases hev : (k : Int) % 2 = 0
          · have hev' : ((k : Int) % 2 == 0) = true := by simpa using hev
            clear hev
            by_cases hd0 : 0 < d
            · go_wp2_with fail
              refine (draw_some cl _ (by omega) (by omega) _).mono ?_
              rintro e w' ⟨y, _, _, rfl, rfl⟩
              go_wp2_with fail
              refine (act_any (hms.alloc _) (hrs.alloc _) HNE.out _ _ _ _).mono ?_
              rintro e w5 ⟨rfl, s', hs', hm5, hr5, hf5⟩
              have hb5 := (hbs.alloc hbs.size _).trans (hf5.below (B := w.heap.size) (by simp; have := hbs.size; omega) HIN.out)
              rw [HS.out] at hs'
              clear hms hrs hbs hf5 g0' g1' g2' g3' HS hev'
              go_wp2_with fail
              refine (same_any hm5 hr5).mono ?_
              rintro e w6 ⟨rfl, hb6⟩
              have hm6 := hm5.fr (Fr.old (S := []) hb6) (by simp) (by simp)
              have hr6 := hr5.fr (Fr.old (S := []) hb6) (by simp) (by simp)
              have hb6' := hb5.trans (hb6.mono hb5.size)
              have HS := Lib.hid hs'
              clear hm5 hr5 hb5 hb6 hs'
              go_wp2_with fail
              go_roundw
              case rel => exact ⟨k + 1, s', by omega, by omega, by go_num, HS.out, hm6, hr6, hb6'⟩
              case measure => simp [intOf]; omega
            · go_wp2_with fail
              refine (act_any (hms.alloc _) (hrs.alloc _) HNE.out _ _ _ _).mono ?_
              rintro e w5 ⟨rfl, s', hs', hm5, hr5, hf5⟩
              have hb5 := (hbs.alloc hbs.size _).trans (hf5.below (B := w.heap.size) (by simp; have := hbs.size; omega) HIN.out)
              rw [HS.out] at hs'
              clear hms hrs hbs hf5 g0' g1' g2' g3' HS hev'
              go_wp2_with fail
              refine (same_any hm5 hr5).mono ?_
              rintro e w6 ⟨rfl, hb6⟩
              have hm6 := hm5.fr (Fr.old (S := []) hb6) (by simp) (by simp)
              have hr6 := hr5.fr (Fr.old (S := []) hb6) (by simp) (by simp)
              have hb6' := hb5.trans (hb6.mono hb5.size)
              have HS := Lib.hid hs'
              clear hm5 hr5 hb5 hb6 hs'
              go_wp2_with fail
              go_roundw
              case rel => exact ⟨k + 1, s', by omega, by omega, by go_num, HS.out, hm6, hr6, hb6'⟩
              case measure => simp [intOf]; omega
          · have hev' : ((k : Int) % 2 == 0) = false := by simpa using hev
            clear hev
            go_wp2_with fail
            refine (act_any (hms.alloc _) (hrs.alloc _) HNE.out _ _ _ _).mono ?_
            rintro e w5 ⟨rfl, s', hs', hm5, hr5, hf5⟩
            have hb5 := (hbs.alloc hbs.size _).trans (hf5.below (B := w.heap.size) (by simp; have := hbs.size; omega) HIN.out)
            rw [HS.out] at hs'
            clear hms hrs hbs hf5 g0' g1' g2' g3' HS hev'
            go_wp2_with fail
            refine (same_any hm5 hr5).mono ?_
            rintro e w6 ⟨rfl, hb6⟩
            have hm6 := hm5.fr (Fr.old (S := []) hb6) (by simp) (by simp)
            have hr6 := hr5.fr (Fr.old (S := []) hb6) (by simp) (by simp)
            have hb6' := hb5.trans (hb6.mono hb5.size)
            have HS := Lib.hid hs'
            clear hm5 hr5 hb5 hb6 hs'
            go_wp2_with fail
            go_roundw
            case rel => exact ⟨k + 1, s', by omega, by omega, by go_num, HS.out, hm6, hr6, hb6'⟩
            case measure => simp [intOf]; omega
        · obtain rfl : k = 60 := by omega
          go_wp2_with fail
          refine (same_any hms hrs).mono ?_
          rintro e w6 ⟨rfl, hb6⟩
          have hz := hbs.trans (hb6.mono hbs.size)
          clear hms hrs hbs hb6
          go_wp2
          go_ret
          exact ⟨rfl, hz⟩
      · obtain rfl : k = L := by omega
        go_wp2_with fail
        refine (same_any hms hrs).mono ?_
        rintro e w6 ⟨rfl, hb6⟩
        have hz := hbs.trans (hb6.mono hbs.size)
        clear hms hrs hbs hb6
        go_wp2
        go_ret
        exact ⟨rfl, hz⟩

theorem plays_law (c : Int) (a : Option Addr) (L cap : Nat) (w : World) (hL : InCalls w a L) :
    Calls Try.prog 3 #[.int .i64 c, .slice a L cap] w fun e w' => e = .returned (.bool true) ∧ Below w.heap.size w w' := by
  by_cases h : 64 < c
  · exact plays_walk c (c % 64) _ rfl (.inl ⟨h, rfl⟩) (by omega) a L cap w hL
  · exact plays_walk c c _ rfl (.inr ⟨by omega, rfl⟩) (by omega) a L cap w hL
end Go.Proofs.Ytbnaiogabcaboaa
