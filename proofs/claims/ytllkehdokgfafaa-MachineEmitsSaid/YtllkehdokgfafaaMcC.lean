/-
  Package machine: awake, and the walk of the statement MachineRuns.
-/
import Derived.Test.YtllkehdokgfafaaMcB
import Derived.Test.YtllkehdokgfafaaKeepN
namespace Go.Proofs.Ytllkehdokgfafaa
open Go Go.RowKit Go.Shelf

theorem below_of_fr {w0 w w' : World} {S : List Nat} (h : Below w0.heap.size w0 w) (hf : Fr S w w') (hs : ∀ x ∈ S, w0.heap.size ≤ x) : Below w0.heap.size w0 w' :=
  h.trans (hf.below h.size hs)

theorem cnt_made (w : World) (c l : Int) : Cnt (w.alloc (.cells #[.int .i64 c, .int .i64 l] 54)) w.heap.size c l := Blk.made w _ _

set_option maxRecDepth 100000 in
set_option maxHeartbeats 1000000 in
theorem awake_any (w : World) :
    Calls Try.prog 10 #[] w fun e w' => e = .returned (.bool true) ∧ Below w.heap.size w w' := by
  go_enter Try.func10, Try.ntmps10
  go_wp2_with fail
  (with_reducible refine (bare_any 1 w).mono ?_)
  rintro e w1 ⟨p, m, k, g, rfl, hp, hb, l1, l2, l3, l4⟩
  have e1 : sizeS 1 = 1 := rfl
  rw [e1] at hp
  have h20 := hp.at20
  have HP := Lib.hid hp
  have HB := Lib.hid hb
  clear hb e1
  go_wp2_with fail
  (with_reducible refine (run_any (n := 3) (hp.alloc _) (by decide) (cnt_made w1 0 3) 10).mono ?_)
  rintro e w2 ⟨rfl, hp2, hc2, hf2⟩
  have b2 := Lib.hid (below_of_fr (HB.out.alloc HB.out.size _) hf2 (by have := HB.out.size; intro x hx; simp only [List.mem_cons, List.not_mem_nil, or_false] at hx; omega))
  clear hc2 hf2 hp HP HB h20
  go_wp2_with fail
  (with_reducible refine (run_any (n := 3) (hp2.alloc _) (by decide) (cnt_made w2 0 3) 2).mono ?_)
  rintro e w3 ⟨rfl, hp3, hc3, hf3⟩
  have b3 := Lib.hid (below_of_fr (b2.out.alloc b2.out.size _) hf3 (by have := b2.out.size; intro x hx; simp only [List.mem_cons, List.not_mem_nil, or_false] at hx; omega))
  have h20 := hp3.at20
  have HP3 := Lib.hid hp3
  clear hc3 hf3 hp2 b2 hp3
  have hold : (addS (addS (St.new 1) 0 (min 3 (10 : Int).toNat)) 0 (min 3 (2 : Int).toNat)).old 0 = 5 := by kernel_rfl
  have H := Lib.hid (peek_any HP3.out.mem 0)
  rw [hold] at H
  clear hold
  go_wp2_with fail
  (with_reducible refine H.out.mono ?_)
  rintro e w4 ⟨rfl, rfl⟩
  go_wp2
  go_ret
  exact ⟨rfl, b3.out⟩
end Go.Proofs.Ytllkehdokgfafaa
