/-
  Package memory: Peek.
  A list of ints without its last element (leave).
-/
import Derived.Test.YthiiidkkdlmneaaMemAcc
import Derived.Test.YthiiidkkdlmneaaOwnI
namespace Go.Proofs.Ythiiidkkdlmneaa
open Go Go.RowKit Go.Shelf

theorem peek_any {w : World} {p g cap : Nat} {s : St} (h : Mem w p g cap s) (i : Int) :
    Calls Try.prog 25 #[.pointer (some ⟨p, 0, none⟩), .int .i64 i] w fun e w' => e = .returned (.int .u64 (s.old i)) ∧ w = w' := by
  have h0 : w.cell? ⟨p, 0, none⟩ = some (.slice (some ⟨g, 0, none⟩) s.X.length cap) := h.blk.at_ 0
  have hs := h.small
  by_cases hi : s.has i
  · obtain ⟨j, rfl⟩ : ∃ j : Nat, i = (j : Int) := ⟨i.toNat, by have := hi.1; omega⟩
    have hj : j < s.X.length := by have := hi.2; omega
    have hc := h.row.cell hj
    simp only [St.old, if_pos hi, Int.toNat_natCast]
    generalize s.X.getD j 0 = x at *
    have H := has_yes h hj
    go_enter Try.func25, Try.ntmps25
    go_wp2_with fail
    refine H.mono ?_
    rintro e w' ⟨rfl, rfl⟩
    go_wp2
    go_ret
    exact ⟨rfl, rfl⟩
  · have H := Lib.hid (has_no h (St.has_no hi))
    simp only [St.old, if_neg hi]
    go_enter Try.func25, Try.ntmps25
    go_wp2_with fail
    refine H.out.mono ?_
    rintro e w' ⟨rfl, rfl⟩
    go_wp2
    go_ret
    exact ⟨rfl, rfl⟩
end Go.Proofs.Ythiiidkkdlmneaa

namespace Go.Proofs.Ythiiidkkdlmneaa
open Go Go.RowKit
theorem OwnI.init {w : World} {base k m c : Nat} {l : List Int} (h : OwnI w base (.slice (some ⟨k, 0, none⟩) (m + 1) c) l) : l.length = m + 1 ∧ m + 1 ≤ c ∧ OwnI w base (.slice (some ⟨k, 0, none⟩) m c) l.dropLast := by
  rcases h.2 with ⟨e, _⟩ | ⟨g, cap, cur, e, h2, hg, hn, hc, hz, ht⟩
  · cases e
  · simp only [Value.slice.injEq, Option.some.injEq, Addr.mk.injEq] at e
    obtain ⟨⟨rfl, _, _⟩, hl, rfl⟩ := e
    have hd : l.dropLast.length = m := by rw [List.length_dropLast]; omega
    refine ⟨hl.symm, by omega, ?_, .inr ⟨k, c, cur, by rw [hd], h2, hg, by omega, hc, hz, ?_⟩⟩
    · rw [List.length_map, Nat.mul_one]
    · rw [hd, List.dropLast_eq_take, List.map_take, ← ht, List.take_take]
      congr 1
      omega
end Go.Proofs.Ythiiidkkdlmneaa
