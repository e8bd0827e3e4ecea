/-
  The walk of the statement MemorySums: it returns true.
-/
import Derived.Test.YtbnaiogabcaboaaMemLawsA
import Derived.Test.YtbnaiogabcaboaaMemRows
namespace Go.Proofs.Ytbnaiogabcaboaa
open Go Go.RowKit Go.Shelf

theorem go_one (S c k i o v : Int) (q : Int) (F : Int → Int) : (St.mk [S] c k i o v).go q 0 F = ⟨[F S], wrap64 (c + 1), q, 0, S, F S⟩ := by kernel_rfl
theorem old_one (S c k i o v : Int) : (St.mk [S] c k i o v).old 0 = S := by kernel_rfl

set_option maxHeartbeats 1000000 in
theorem sums_law (a : Option Addr) (n cap : Nat) (zs : List Int) (w : World) (h : InRow w a n zs) :
    Calls Try.prog 6 #[.slice a n cap] w fun e w' => e = .returned (.bool true) ∧ Below w.heap.size w w' := by
  have hmax := h.2.1
  unfold maxLen at hmax
  by_cases hn : 100 < n
  · go_enter Try.func6, Try.ntmps6
    go_wp2
    go_ret
    exact ⟨rfl, Below.refl _ _⟩
  · have H := Lib.hid h
    clear h
    go_enter Try.func6, Try.ntmps6
    go_wp2_with fail
    refine (new_any 1 w).mono ?_
    rintro e w1 ⟨rfl, hm, hb⟩
    have es : sizeS 1 = 1 := rfl
    rw [es] at hm
    clear es
    go_wp2_with fail
    refine (awake_any w1).mono ?_
    rintro e w2 ⟨rfl, hb2⟩
    have hm2 := hm.fr (Fr.old (S := []) hb2) (by simp) (by simp)
    have hb2' : Below w.heap.size w w2 := hb.trans (hb2.mono hb.size)
    have e0 : St.new 1 = ⟨[0], 0, 0, 0, 0, 0⟩ := rfl
    rw [e0] at hm2
    clear hb hb2 hm e0
    go_wp2_with fail
    go_loopw [4, 5] (fun sm i wr => ∃ (k : Nat) (S q o v : Int), k ≤ n ∧ i = .int .i64 k ∧ sm = .int .u64 S ∧ Mem wr (w.heap.size + 1) w.heap.size 1 ⟨[S], k, q, 0, o, v⟩ ∧ Below w.heap.size w wr) (fun _ i _ => n - (intOf i).toNat)
    case atStart => exact ⟨0, 0, 0, 0, 0, by omega, rfl, rfl, hm2, hb2'⟩
    case round =>
      obtain ⟨k, S, q, o, v, hk, rfl, rfl, hmk, hbk⟩ := hrel
      clear hm2 hb2'
      by_cases hlt : k < n
      · obtain ⟨x, rfl, _, hc⟩ := (H.out.below hbk).2.2 k hlt
        go_wp2_with fail
        refine (add_any hmk 0 _).mono ?_
        rintro e w3 ⟨rfl, hm3, hf3⟩
        have hb3 : Below w.heap.size w w3 := hbk.trans (hf3.below hbk.size (by simp))
        rw [go_one] at hm3
        rw [old_one]
        obtain ⟨x', e', _, hc'⟩ := (H.out.below hb3).2.2 k hlt
        obtain rfl : x = x' := Option.some.inj e'
        have ek : wrap64 ((k : Int) + 1) = ((k + 1 : Nat) : Int) := by unfold wrap64; omega
        rw [ek] at hm3
        clear e' hc hmk hbk hf3 ek
        go_wp2_with fail
        go_roundw
        case rel => exact ⟨k + 1, _, _, _, _, by omega, by go_num, rfl, hm3, hb3⟩
        case measure => simp [intOf]; omega
      · obtain rfl : k = n := by omega
        go_wp2_with fail
        refine (peek_any hmk 0).mono ?_
        rintro e w' ⟨rfl, rfl⟩
        rw [old_one]
        go_wp2_with fail
        refine (count_any hmk).mono ?_
        rintro e w' ⟨rfl, rfl⟩
        clear hmk
        go_wp2
        go_ret
        exact ⟨rfl, hbk⟩
end Go.Proofs.Ytbnaiogabcaboaa
