/-
  slices.Sort at uint64: the pivot is chosen.
-/
import Derived.Test.YtjejnkkefkompaaSrtC
namespace Go.Proofs.Ytjejnkkefkompaa
open Go Go.RowKit Go.Sort
set_option linter.unusedSimpArgs false
set_option linter.unusedVariables false

/-- The box of swaps. -/
def Box (w : World) (q s : Nat) : Prop := w.cell? ⟨q, 0, none⟩ = some (.int .i64 (s : Int)) ∧ w.frozen? ⟨q, 0, none⟩ = false
theorem Box.drewN {w : World} {q s : Nat} (h : Box w q s) (k : Nat) : Box (w.drewN k) q s := h
theorem RowA.fr {w w' : World} {g n c q : Nat} {d : Array Int} (h : RowA w g n c d) (hf : Fr [q] w w') (hq : g ≠ q) : RowA w' g n c d :=
  Row.of_same h (hf.block g h.lt (by simp only [List.mem_singleton]; exact hq))

set_option maxRecDepth 100000 in
set_option maxHeartbeats 4000000 in
theorem order2_any {w : World} {g n c q s a b lo hb : Nat} {d : Array Int} (h : RowA w g n c d) (hq : g ≠ q) (hB : Box w q s) (hs : s ≤ 1000) (ha : lo ≤ a) (ha2 : a < hb) (hb1 : lo ≤ b) (hb2 : b < hb) (hbn : hb ≤ n) (hn : n ≤ 100000) :
    Calls Try.prog 45 #[.slice (some ⟨g, 0, none⟩) n c, .int .i64 a, .int .i64 b, .pointer (some ⟨q, 0, none⟩)] w fun e w' => ∃ x y s' : Nat, e = .returned (.tuple #[.int .i64 x, .int .i64 y]) ∧ (lo ≤ x ∧ x < hb) ∧ (lo ≤ y ∧ y < hb) ∧ s' ≤ s + 1 ∧ Box w' q s' ∧ Fr [q] w w' := by
  have HR := Lib.hid h
  have hnI : (n : Int) ≤ 100000 := by omega
  have hsI : (s : Int) ≤ 1000 := by omega
  have c1 := h.cell (i := a) (by omega)
  have c2 := h.cell (i := b) (by omega)
  have b1 : a < n := by omega
  have b2 : b < n := by omega
  have hqq := less_any d[b]! d[a]!
  have HB := Lib.hid hB
  obtain ⟨lb, hlb⟩ : ∃ lb, ltW d[b]! d[a]! = lb := ⟨_, rfl⟩
  rw [hlb] at hqq
  clear h hB hlb
  go_enter Try.func45, Try.ntmps45
  go_wp2_with fail
  go_quiet ((go_at_call 34; exact Calls.quiet_of_same (hqq _)))
  have HB2 := Lib.hid (HB.out.drewN nq)
  have HF2 := Lib.hid ((Fr.refl [q] w).drewN nq)
  clear c1 c2 hqq HB
  generalize w.drewN nq = W2 at *
  cases lb with
  | false =>
    go_wp2_with fail
    go_ret2
    exact ⟨a, b, s, rfl, ⟨ha, ha2⟩, ⟨hb1, hb2⟩, by omega, HB2.out, HF2.out⟩
  | true =>
    have k1 := HB2.out.1
    have k2 := HB2.out.2
    have hqs : q < W2.heap.size := World.block_lt_of_cell? _ _ k1
    go_wp2_with fail
    go_ret2
    refine ⟨b, a, s + 1, rfl, ⟨hb1, hb2⟩, ⟨ha, ha2⟩, by omega, ⟨?_, ?_⟩, ?_⟩
    · go_simp
    · go_simp
    · exact HF2.out.setCell (p := ⟨q, 0, none⟩) (.inl (List.mem_singleton.2 rfl)) _

set_option maxRecDepth 100000 in
set_option maxHeartbeats 4000000 in
theorem median_any {w : World} {g n c q s a b e lo hb : Nat} {d : Array Int} (h : RowA w g n c d) (hq : g ≠ q) (hB : Box w q s) (hs : s ≤ 900) (ha : lo ≤ a) (ha2 : a < hb) (hb1 : lo ≤ b) (hb2 : b < hb) (he1 : lo ≤ e) (he2 : e < hb) (hbn : hb ≤ n) (hn : n ≤ 100000) :
    Calls Try.prog 43 #[.slice (some ⟨g, 0, none⟩) n c, .int .i64 a, .int .i64 b, .int .i64 e, .pointer (some ⟨q, 0, none⟩)] w fun r w' => ∃ x s' : Nat, r = .returned (.int .i64 x) ∧ (lo ≤ x ∧ x < hb) ∧ s' ≤ s + 3 ∧ Box w' q s' ∧ Fr [q] w w' := by
  have HR := Lib.hid h
  have HB := Lib.hid hB
  clear h hB
  go_enter Try.func43, Try.ntmps43
  go_wp2_with fail
  (with_reducible refine (order2_any HR.out hq HB.out (by omega) ha ha2 hb1 hb2 hbn hn).mono ?_)
  rintro r w1 ⟨x1, y1, s1, rfl, hx1, hy1, hs1, hB1, hF1⟩
  have HR1 := Lib.hid (HR.out.fr hF1 hq)
  have HB1 := Lib.hid hB1
  have HF1 := Lib.hid hF1
  clear hB1 hF1
  go_wp2_with fail
  (with_reducible refine (order2_any HR1.out hq HB1.out (by omega) hy1.1 hy1.2 he1 he2 hbn hn).mono ?_)
  rintro r w2 ⟨x2, y2, s2, rfl, hx2, hy2, hs2, hB2, hF2⟩
  have HR2 := Lib.hid (HR1.out.fr hF2 hq)
  have HB2 := Lib.hid hB2
  have HF2 := Lib.hid (HF1.out.trans hF2)
  clear hB2 hF2
  go_wp2_with fail
  (with_reducible refine (order2_any HR2.out hq HB2.out (by omega) hx1.1 hx1.2 hx2.1 hx2.2 hbn hn).mono ?_)
  rintro r w3 ⟨x3, y3, s3, rfl, hx3, hy3, hs3, hB3, hF3⟩
  go_wp2_with fail
  go_ret
  exact ⟨y3, s3, rfl, hy3, by omega, hB3, HF2.out.trans hF3⟩

set_option maxRecDepth 100000 in
theorem adjacent_any {w : World} {g n c q s a lo hb : Nat} {d : Array Int} (h : RowA w g n c d) (hq : g ≠ q) (hB : Box w q s) (hs : s ≤ 900) (ha : lo + 1 ≤ a) (ha2 : a + 1 < hb) (hbn : hb ≤ n) (hn : n ≤ 100000) :
    Calls Try.prog 42 #[.slice (some ⟨g, 0, none⟩) n c, .int .i64 a, .pointer (some ⟨q, 0, none⟩)] w fun r w' => ∃ x s' : Nat, r = .returned (.int .i64 x) ∧ (lo ≤ x ∧ x < hb) ∧ s' ≤ s + 3 ∧ Box w' q s' ∧ Fr [q] w w' := by
  obtain ⟨a0, h0⟩ : ∃ a0, a - 1 = a0 := ⟨_, rfl⟩
  obtain ⟨a2, h2⟩ : ∃ a2, a + 1 = a2 := ⟨_, rfl⟩
  have e0 : (a : Int) - 1 = (a0 : Int) := by omega
  have e2 : (a : Int) + 1 = (a2 : Int) := by omega
  have hnI : (n : Int) ≤ 100000 := by omega
  have hm := median_any (a := a0) (b := a) (e := a2) (lo := lo) (hb := hb) h hq hB hs (by omega) (by omega) (by omega) (by omega) (by omega) (by omega) hbn hn
  have aI : (a : Int) ≤ 100000 := by omega
  clear h0 h2
  go_enter Try.func42, Try.ntmps42
  go_wp2_with fail
  (with_reducible refine hm.mono ?_)
  rintro r w1 ⟨x, s1, rfl, hx, hs1, hB1, hF1⟩
  go_wp2
  go_ret
  exact ⟨x, s1, rfl, hx, hs1, hB1, hF1⟩
end Go.Proofs.Ytjejnkkefkompaa
