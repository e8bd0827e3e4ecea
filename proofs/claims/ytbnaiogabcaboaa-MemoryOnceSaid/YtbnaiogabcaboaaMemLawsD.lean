/-
  The walk of the statement MemoryOnce: it returns true.
-/
import Derived.Test.YtbnaiogabcaboaaMemLawsC
namespace Go.Proofs.Ytbnaiogabcaboaa
open Go Go.RowKit Go.Shelf

theorem hit_one (S c k i o v u : Int) : (St.mk [S] c k i o v).hit 0 u = (S == u) := by kernel_rfl

/-- What the loop keeps: no CAS has succeeded and the cell contains from, or one has, and it doesn't. -/
def OnceR (src : Int) (W : World) (n : Nat) (won i : Value) (wr : World) : Prop :=
  ∃ (k m : Nat) (S c q o v : Int), k ≤ n ∧ i = .int .i64 k ∧ won = .int .i64 m ∧ ((m = 0 ∧ S = src) ∨ (m = 1 ∧ S ≠ src)) ∧ Mem wr (W.heap.size + 1) W.heap.size 1 ⟨[S], c, q, 0, o, v⟩ ∧ Below W.heap.size W wr

set_option maxHeartbeats 1000000 in
theorem once_law (src : Int) (a : Option Addr) (n cap : Nat) (zs : List Int) (w : World) (h : InRow w a n zs) :
    Calls Try.prog 8 #[.int .u64 src, .slice a n cap] w fun e w' => e = .returned (.bool true) ∧ Below w.heap.size w w' := by
  have hmax := h.2.1
  unfold maxLen at hmax
  by_cases hn : 60 < n
  · go_enter Try.func8, Try.ntmps8
    go_wp2
    go_ret
    exact ⟨rfl, Below.refl _ _⟩
  · have H := Lib.hid h
    clear h
    go_enter Try.func8, Try.ntmps8
    go_wp2_with fail
    refine (new_any 1 w).mono ?_
    rintro e w1 ⟨rfl, hm, hb⟩
    have es : sizeS 1 = 1 := rfl
    rw [es] at hm
    clear es
    go_wp2_with fail
    refine (awake_any w1).mono ?_
    rintro e w2 ⟨rfl, hb2⟩
    have hm2 := hm.fr (Fr.old (S := []) hb2) (by simp) (by simp)
    have hb2' : Below w.heap.size w w2 := hb.trans (hb2.mono hb.size)
    have e0 : St.new 1 = ⟨[0], 0, 0, 0, 0, 0⟩ := rfl
    rw [e0] at hm2
    clear hb hb2 hm e0
    go_wp2_with fail
    refine (store_any hm2 0 src).mono ?_
    rintro e w3 ⟨rfl, hm3, hf3⟩
    have hb3 : Below w.heap.size w w3 := hb2'.trans (hf3.below hb2'.size (by simp))
    rw [go_one] at hm3
    clear hm2 hb2' hf3
    go_wp2_with fail
    go_loopw [6, 7] (fun won i wr => OnceR src w n won i wr) (fun _ i _ => n - (intOf i).toNat)
    case atStart => exact ⟨0, 0, _, _, _, _, _, by omega, rfl, rfl, .inl ⟨rfl, rfl⟩, hm3, hb3⟩
    case round =>
      obtain ⟨k, m, S, c, q, o, v, hk, rfl, rfl, hS, hmk, hbk⟩ := hrel
      clear hm3 hb3
      by_cases hlt : k < n
      · obtain ⟨x, rfl, _, hc⟩ := (H.out.below hbk).2.2 k hlt
        generalize zs.getD k 0 = z at hc
        by_cases hz : z = src
        · have hz' : (z == src) = true := by simpa using hz
          clear hz
          have HS := Lib.hid hS
          clear hS
          go_wp2_with fail
          go_roundw
          case rel => exact ⟨k + 1, m, S, c, q, o, v, by omega, by go_num, rfl, HS.out, hmk, hbk⟩
          case measure => simp [intOf]; omega
        · have hz' : (z == src) = false := by simpa using hz
          rcases hS with ⟨rfl, rfl⟩ | ⟨rfl, hS⟩
          · have HZ := Lib.hid hz
            clear hz
            go_wp2_with fail
            refine (cas_any hmk 0 S z).mono ?_
            rintro e w4 ⟨rfl, hm4, hf4⟩
            have hb4 : Below w.heap.size w w4 := hbk.trans (hf4.below hbk.size (by simp))
            rw [go_one, if_pos rfl] at hm4
            rw [hit_one, show (S == S) = true by simp]
            clear hmk hf4
            go_wp2_with fail
            go_roundw
            case rel => exact ⟨k + 1, 1, z, _, _, _, _, by omega, by go_num, rfl, .inr ⟨rfl, HZ.out⟩, hm4, hb4⟩
            case measure => simp [intOf]; omega
          · have HZ := Lib.hid hz
            have HS := Lib.hid hS
            have hS' : (S == src) = false := by simpa using hS
            clear hz
            go_wp2_with fail
            refine (cas_any hmk 0 src z).mono ?_
            rintro e w4 ⟨rfl, hm4, hf4⟩
            have hb4 : Below w.heap.size w w4 := hbk.trans (hf4.below hbk.size (by simp))
            rw [go_one, if_neg hS] at hm4
            rw [hit_one, hS']
            clear hmk hf4 hS hS'
            go_wp2_with fail
            go_roundw
            case rel => exact ⟨k + 1, 1, S, _, _, _, _, by omega, by go_num, rfl, .inr ⟨rfl, HS.out⟩, hm4, hb4⟩
            case measure => simp [intOf]; omega
      · obtain rfl : k = n := by omega
        rcases hS with ⟨rfl, rfl⟩ | ⟨rfl, hS⟩
        · go_wp2_with fail
          refine (peek_any hmk 0).mono ?_
          rintro e w' ⟨rfl, rfl⟩
          rw [old_one]
          clear hmk
          go_wp2
          go_ret
          exact ⟨rfl, hbk⟩
        · have hS' : (S == src) = false := by simpa using hS
          have hS2 : (S != src) = true := by simpa using hS
          go_wp2_with fail
          refine (peek_any hmk 0).mono ?_
          rintro e w' ⟨rfl, rfl⟩
          rw [old_one]
          clear hmk hS
          go_wp2
          go_ret
          exact ⟨rfl, hbk⟩
end Go.Proofs.Ytbnaiogabcaboaa
