/-
  Contract of readNumbers. (Written by wip/gen_cfnum.py.)
-/
import Derived.Test.YtnpnamgeajifkaaCfRead
namespace Go.Proofs.Ytnpnamgeajifkaa
open Go Go.RowKit

/-- Eleven cells stored. -/
theorem Blk.put11 {w : World} {g : Nat} {t : TypeId} {a0 a1 a2 a3 a4 a5 a6 a7 a8 a9 a10 : Value} (h : Blk w g t #[a0, a1, a2, a3, a4, a5, a6, a7, a8, a9, a10]) (v0 v1 v2 v3 v4 v5 v6 v7 v8 v9 v10 : Value) : Blk (((((((((((w.setCell ⟨g, 0, none⟩ v0).setCell ⟨g, 1, none⟩ v1).setCell ⟨g, 2, none⟩ v2).setCell ⟨g, 3, none⟩ v3).setCell ⟨g, 4, none⟩ v4).setCell ⟨g, 5, none⟩ v5).setCell ⟨g, 6, none⟩ v6).setCell ⟨g, 7, none⟩ v7).setCell ⟨g, 8, none⟩ v8).setCell ⟨g, 9, none⟩ v9).setCell ⟨g, 10, none⟩ v10) g t #[v0, v1, v2, v3, v4, v5, v6, v7, v8, v9, v10] := by
  have := (((((((((((h.put 0 v0).put 1 v1).put 2 v2).put 3 v3).put 4 v4).put 5 v5).put 6 v6).put 7 v7).put 8 v8).put 9 v9).put 10 v10)
  simpa only [List.setIfInBounds_toArray, List.set_cons_zero, List.set_cons_succ] using this
theorem fr11 (w : World) (g : Nat) (v0 v1 v2 v3 v4 v5 v6 v7 v8 v9 v10 : Value) : Fr [g] w (((((((((((w.setCell ⟨g, 0, none⟩ v0).setCell ⟨g, 1, none⟩ v1).setCell ⟨g, 2, none⟩ v2).setCell ⟨g, 3, none⟩ v3).setCell ⟨g, 4, none⟩ v4).setCell ⟨g, 5, none⟩ v5).setCell ⟨g, 6, none⟩ v6).setCell ⟨g, 7, none⟩ v7).setCell ⟨g, 8, none⟩ v8).setCell ⟨g, 9, none⟩ v9).setCell ⟨g, 10, none⟩ v10) :=
  ((((((((((((Fr.refl [g] w).setCell (p := ⟨g, 0, none⟩) (.inl (List.mem_singleton.2 rfl)) v0).setCell (p := ⟨g, 1, none⟩) (.inl (List.mem_singleton.2 rfl)) v1).setCell (p := ⟨g, 2, none⟩) (.inl (List.mem_singleton.2 rfl)) v2).setCell (p := ⟨g, 3, none⟩) (.inl (List.mem_singleton.2 rfl)) v3).setCell (p := ⟨g, 4, none⟩) (.inl (List.mem_singleton.2 rfl)) v4).setCell (p := ⟨g, 5, none⟩) (.inl (List.mem_singleton.2 rfl)) v5).setCell (p := ⟨g, 6, none⟩) (.inl (List.mem_singleton.2 rfl)) v6).setCell (p := ⟨g, 7, none⟩) (.inl (List.mem_singleton.2 rfl)) v7).setCell (p := ⟨g, 8, none⟩) (.inl (List.mem_singleton.2 rfl)) v8).setCell (p := ⟨g, 9, none⟩) (.inl (List.mem_singleton.2 rfl)) v9).setCell (p := ⟨g, 10, none⟩) (.inl (List.mem_singleton.2 rfl)) v10)

/-- The numbers of a configuration read from the beginning on. -/
abbrev nums0 (f : Nat → Int) : Value := .agg #[.int .i64 (1 + f 0 % 4), .int .i64 (nLe f), .int .i64 (1 + f 2 % min 3 (nLe f)), .int .i64 (1 + f 3 % 12), .int .i64 (nDe f), .int .i64 (1 + f 5 % 4), .int .i64 (1 + f 6 % nDe f), .int .i64 (f 7 % 6), .int .i64 (1 + f 8 % 8), .slice none 0 0, .slice none 0 0]
def NumsRead (B g : Nat) (zs : List Int) (w : World) (e : Ending) (w' : World) : Prop :=
  e = .returned (nums0 (strm zs)) ∧ Rdr w' B g zs 9 ∧ Fr [g] w w'

abbrev zero11 : Array Value := #[.int .i64 0, .int .i64 0, .int .i64 0, .int .i64 0, .int .i64 0, .int .i64 0, .int .i64 0, .int .i64 0, .int .i64 0, .slice none 0 0, .slice none 0 0]

/-- What is known on the way: block c holds the cells cs, block d zeros. -/
structure NumSt (w0 : World) (B g : Nat) (zs : List Int) (i : Nat) (cs : Array Value) (w : World) : Prop where
  rd : Rdr w B g zs i
  fr : Fr [g] w0 w
  c : Blk w (w0.heap.size + 1) 25 cs
  d : Blk w w0.heap.size 25 zero11
theorem NumSt.step {w0 w w' : World} {B g : Nat} {zs : List Int} {i : Nat} {cs : Array Value} (h : NumSt w0 B g zs i cs w) (hg : g < w0.heap.size) (hB : B ≤ g) (hr : Rdr w' B g zs (i + 1)) (hf : Fr [g] w w') (j : Nat) (u : Value) :
    NumSt w0 B g zs (i + 1) (cs.setIfInBounds j u) (w'.setCell ⟨w0.heap.size + 1, j, none⟩ u) := by
  have hc := h.c.of_same (hf.block _ h.c.lt (by simp; omega))
  have hd := h.d.of_same (hf.block _ h.d.lt (by simp; omega))
  exact ⟨hr.set (by show B ≤ w0.heap.size + 1; omega) (by show w0.heap.size + 1 ≠ g; omega) u, (h.fr.trans hf).setCell (.inr (by show w0.heap.size ≤ w0.heap.size + 1; omega)) u, hc.put j u, hd.of_same (Below.heap_setCell _ _ _ _ (by show w0.heap.size ≠ w0.heap.size + 1; omega))⟩
theorem NumSt.at_ {w0 w w' : World} {B g : Nat} {zs : List Int} {i : Nat} {cs : Array Value} (h : NumSt w0 B g zs i cs w) (hg : g < w0.heap.size) (hf : Fr [g] w w') (j : Nat) : w'.cell? ⟨w0.heap.size + 1, j, none⟩ = cs[j]? ∧ w'.frozen? ⟨w0.heap.size + 1, j, none⟩ = false :=
  have hc := h.c.of_same (hf.block _ h.c.lt (by simp; omega))
  ⟨hc.at_ j, hc.free j⟩

set_option maxRecDepth 20000 in
set_option maxHeartbeats 4000000 in
theorem readnumbers_any {w : World} {B g : Nat} {zs : List Int} (h : Rdr w B g zs 0) :
    Calls Try.prog 33 #[.func (.func 47) #[] #[.pointer (some ⟨g, 0, none⟩)]] w (NumsRead B g zs w) := by
  have hg := h.lt
  have hB := h.le
  have hC0 := Blk.made (w.alloc (.cells zero11 25)) 25 zero11
  rw [show (w.alloc (.cells zero11 25)).heap.size = w.heap.size + 1 by simp] at hC0
  have S0 := Lib.hid (show NumSt w B g zs 0 zero11 ((w.alloc (.cells zero11 25)).alloc (.cells zero11 25)) from
    ⟨(h.alloc _).alloc _, ((Fr.refl [g] w).alloc _).alloc _, hC0, (Blk.made w 25 zero11).alloc _⟩)
  clear hC0 h
  obtain ⟨f, hf⟩ : ∃ f, strm zs = f := ⟨_, rfl⟩
  have HFF := Lib.hid hf
  have m0 := mod4 (f 0)
  have m1 := mod4 (f 1)
  have m2 := modk (f 2) (k := min 3 (1 + f 1 % 4)) (by omega)
  have m3 := modk (f 3) (k := 12) (by omega)
  have m4 := mod4 (f 4)
  have m5 := mod4 (f 5)
  have m6 := modk (f 6) (k := 1 + f 4 % 4) (by omega)
  have m7 := modk (f 7) (k := 6) (by omega)
  have m8 := modk (f 8) (k := 8) (by omega)
  clear hf
  have hm : (1 + f 1 % 4 < 3 ∧ min 3 (1 + f 1 % 4) = 1 + f 1 % 4) ∨ (¬ (1 + f 1 % 4 < 3) ∧ min 3 (1 + f 1 % 4) = 3) := by omega
  rcases hm with ⟨hm, hmin⟩ | ⟨hm, hmin⟩
  · rw [hmin] at m2
    have HMIN := Lib.hid hmin
    clear hmin
    go_enter Try.func33, Try.ntmps33
    go_wp2_with fail
    refine (next_any S0.out.rd _ (by omega) (by omega)).mono ?_
    rintro e w1 ⟨rfl, hr, hf⟩
    rw [HFF.out]
    obtain ⟨hc0, hf0⟩ : w1.cell? ⟨w.heap.size + 1, 0, none⟩ = some (.int .i64 0) ∧ w1.frozen? ⟨w.heap.size + 1, 0, none⟩ = false := S0.out.at_ hg hf 0
    have S1 := Lib.hid (show NumSt w B g zs 1 #[.int .i64 (1 + f 0 % 4), .int .i64 0, .int .i64 0, .int .i64 0, .int .i64 0, .int .i64 0, .int .i64 0, .int .i64 0, .int .i64 0, .slice none 0 0, .slice none 0 0] (w1.setCell ⟨w.heap.size + 1, 0, none⟩ (.int .i64 (1 + f 0 % 4))) from by
      have hst := S0.out.step hg hB hr hf 0 (.int .i64 (1 + f 0 % 4))
      simpa only [List.setIfInBounds_toArray, List.set_cons_zero, List.set_cons_succ] using hst)
    clear hr hf S0
    go_wp2_with fail
    refine (next_any S1.out.rd _ (by omega) (by omega)).mono ?_
    rintro e w2 ⟨rfl, hr, hf⟩
    rw [HFF.out]
    obtain ⟨hc1, hf1⟩ : w2.cell? ⟨w.heap.size + 1, 1, none⟩ = some (.int .i64 0) ∧ w2.frozen? ⟨w.heap.size + 1, 1, none⟩ = false := S1.out.at_ hg hf 1
    have S2 := Lib.hid (show NumSt w B g zs 2 #[.int .i64 (1 + f 0 % 4), .int .i64 (1 + f 1 % 4), .int .i64 0, .int .i64 0, .int .i64 0, .int .i64 0, .int .i64 0, .int .i64 0, .int .i64 0, .slice none 0 0, .slice none 0 0] (w2.setCell ⟨w.heap.size + 1, 1, none⟩ (.int .i64 (1 + f 1 % 4))) from by
      have hst := S1.out.step hg hB hr hf 1 (.int .i64 (1 + f 1 % 4))
      simpa only [List.setIfInBounds_toArray, List.set_cons_zero, List.set_cons_succ] using hst)
    clear hr hf S1
    clear hc0 hf0
    go_wp2_with fail
    refine (next_any S2.out.rd _ (by omega) (by omega)).mono ?_
    rintro e w3 ⟨rfl, hr, hf⟩
    rw [HFF.out]
    obtain ⟨hc2, hf2⟩ : w3.cell? ⟨w.heap.size + 1, 2, none⟩ = some (.int .i64 0) ∧ w3.frozen? ⟨w.heap.size + 1, 2, none⟩ = false := S2.out.at_ hg hf 2
    have S3 := Lib.hid (show NumSt w B g zs 3 #[.int .i64 (1 + f 0 % 4), .int .i64 (1 + f 1 % 4), .int .i64 (1 + f 2 % (1 + f 1 % 4)), .int .i64 0, .int .i64 0, .int .i64 0, .int .i64 0, .int .i64 0, .int .i64 0, .slice none 0 0, .slice none 0 0] (w3.setCell ⟨w.heap.size + 1, 2, none⟩ (.int .i64 (1 + f 2 % (1 + f 1 % 4)))) from by
      have hst := S2.out.step hg hB hr hf 2 (.int .i64 (1 + f 2 % (1 + f 1 % 4)))
      simpa only [List.setIfInBounds_toArray, List.set_cons_zero, List.set_cons_succ] using hst)
    clear hr hf S2
    clear hc1 hf1
    go_wp2_with fail
    refine (next_any S3.out.rd _ (by omega) (by omega)).mono ?_
    rintro e w4 ⟨rfl, hr, hf⟩
    rw [HFF.out]
    obtain ⟨hc3, hf3⟩ : w4.cell? ⟨w.heap.size + 1, 3, none⟩ = some (.int .i64 0) ∧ w4.frozen? ⟨w.heap.size + 1, 3, none⟩ = false := S3.out.at_ hg hf 3
    have S4 := Lib.hid (show NumSt w B g zs 4 #[.int .i64 (1 + f 0 % 4), .int .i64 (1 + f 1 % 4), .int .i64 (1 + f 2 % (1 + f 1 % 4)), .int .i64 (1 + f 3 % 12), .int .i64 0, .int .i64 0, .int .i64 0, .int .i64 0, .int .i64 0, .slice none 0 0, .slice none 0 0] (w4.setCell ⟨w.heap.size + 1, 3, none⟩ (.int .i64 (1 + f 3 % 12))) from by
      have hst := S3.out.step hg hB hr hf 3 (.int .i64 (1 + f 3 % 12))
      simpa only [List.setIfInBounds_toArray, List.set_cons_zero, List.set_cons_succ] using hst)
    clear hr hf S3
    clear hc2 hf2
    go_wp2_with fail
    refine (next_any S4.out.rd _ (by omega) (by omega)).mono ?_
    rintro e w5 ⟨rfl, hr, hf⟩
    rw [HFF.out]
    obtain ⟨hc4, hf4⟩ : w5.cell? ⟨w.heap.size + 1, 4, none⟩ = some (.int .i64 0) ∧ w5.frozen? ⟨w.heap.size + 1, 4, none⟩ = false := S4.out.at_ hg hf 4
    have S5 := Lib.hid (show NumSt w B g zs 5 #[.int .i64 (1 + f 0 % 4), .int .i64 (1 + f 1 % 4), .int .i64 (1 + f 2 % (1 + f 1 % 4)), .int .i64 (1 + f 3 % 12), .int .i64 (1 + f 4 % 4), .int .i64 0, .int .i64 0, .int .i64 0, .int .i64 0, .slice none 0 0, .slice none 0 0] (w5.setCell ⟨w.heap.size + 1, 4, none⟩ (.int .i64 (1 + f 4 % 4))) from by
      have hst := S4.out.step hg hB hr hf 4 (.int .i64 (1 + f 4 % 4))
      simpa only [List.setIfInBounds_toArray, List.set_cons_zero, List.set_cons_succ] using hst)
    clear hr hf S4
    clear hc3 hf3
    go_wp2_with fail
    refine (next_any S5.out.rd _ (by omega) (by omega)).mono ?_
    rintro e w6 ⟨rfl, hr, hf⟩
    rw [HFF.out]
    obtain ⟨hc5, hf5⟩ : w6.cell? ⟨w.heap.size + 1, 5, none⟩ = some (.int .i64 0) ∧ w6.frozen? ⟨w.heap.size + 1, 5, none⟩ = false := S5.out.at_ hg hf 5
    have S6 := Lib.hid (show NumSt w B g zs 6 #[.int .i64 (1 + f 0 % 4), .int .i64 (1 + f 1 % 4), .int .i64 (1 + f 2 % (1 + f 1 % 4)), .int .i64 (1 + f 3 % 12), .int .i64 (1 + f 4 % 4), .int .i64 (1 + f 5 % 4), .int .i64 0, .int .i64 0, .int .i64 0, .slice none 0 0, .slice none 0 0] (w6.setCell ⟨w.heap.size + 1, 5, none⟩ (.int .i64 (1 + f 5 % 4))) from by
      have hst := S5.out.step hg hB hr hf 5 (.int .i64 (1 + f 5 % 4))
      simpa only [List.setIfInBounds_toArray, List.set_cons_zero, List.set_cons_succ] using hst)
    have hd4 : w6.cell? ⟨w.heap.size + 1, 4, none⟩ = some (.int .i64 (1 + f 4 % 4)) := (S5.out.at_ hg hf 4).1
    clear hr hf S5
    clear hc4 hf4
    go_wp2_with fail
    refine (next_any S6.out.rd _ (by omega) (by omega)).mono ?_
    rintro e w7 ⟨rfl, hr, hf⟩
    rw [HFF.out]
    obtain ⟨hc6, hf6⟩ : w7.cell? ⟨w.heap.size + 1, 6, none⟩ = some (.int .i64 0) ∧ w7.frozen? ⟨w.heap.size + 1, 6, none⟩ = false := S6.out.at_ hg hf 6
    have S7 := Lib.hid (show NumSt w B g zs 7 #[.int .i64 (1 + f 0 % 4), .int .i64 (1 + f 1 % 4), .int .i64 (1 + f 2 % (1 + f 1 % 4)), .int .i64 (1 + f 3 % 12), .int .i64 (1 + f 4 % 4), .int .i64 (1 + f 5 % 4), .int .i64 (1 + f 6 % (1 + f 4 % 4)), .int .i64 0, .int .i64 0, .slice none 0 0, .slice none 0 0] (w7.setCell ⟨w.heap.size + 1, 6, none⟩ (.int .i64 (1 + f 6 % (1 + f 4 % 4)))) from by
      have hst := S6.out.step hg hB hr hf 6 (.int .i64 (1 + f 6 % (1 + f 4 % 4)))
      simpa only [List.setIfInBounds_toArray, List.set_cons_zero, List.set_cons_succ] using hst)
    clear hr hf S6
    clear hc5 hf5
    clear hd4
    go_wp2_with fail
    refine (next_any S7.out.rd _ (by omega) (by omega)).mono ?_
    rintro e w8 ⟨rfl, hr, hf⟩
    rw [HFF.out]
    obtain ⟨hc7, hf7⟩ : w8.cell? ⟨w.heap.size + 1, 7, none⟩ = some (.int .i64 0) ∧ w8.frozen? ⟨w.heap.size + 1, 7, none⟩ = false := S7.out.at_ hg hf 7
    have S8 := Lib.hid (show NumSt w B g zs 8 #[.int .i64 (1 + f 0 % 4), .int .i64 (1 + f 1 % 4), .int .i64 (1 + f 2 % (1 + f 1 % 4)), .int .i64 (1 + f 3 % 12), .int .i64 (1 + f 4 % 4), .int .i64 (1 + f 5 % 4), .int .i64 (1 + f 6 % (1 + f 4 % 4)), .int .i64 (f 7 % 6), .int .i64 0, .slice none 0 0, .slice none 0 0] (w8.setCell ⟨w.heap.size + 1, 7, none⟩ (.int .i64 (f 7 % 6))) from by
      have hst := S7.out.step hg hB hr hf 7 (.int .i64 (f 7 % 6))
      simpa only [List.setIfInBounds_toArray, List.set_cons_zero, List.set_cons_succ] using hst)
    clear hr hf S7
    clear hc6 hf6
    go_wp2_with fail
    refine (next_any S8.out.rd _ (by omega) (by omega)).mono ?_
    rintro e w9 ⟨rfl, hr, hf⟩
    rw [HFF.out]
    obtain ⟨hc8, hf8⟩ : w9.cell? ⟨w.heap.size + 1, 8, none⟩ = some (.int .i64 0) ∧ w9.frozen? ⟨w.heap.size + 1, 8, none⟩ = false := S8.out.at_ hg hf 8
    have S9 := Lib.hid (show NumSt w B g zs 9 #[.int .i64 (1 + f 0 % 4), .int .i64 (1 + f 1 % 4), .int .i64 (1 + f 2 % (1 + f 1 % 4)), .int .i64 (1 + f 3 % 12), .int .i64 (1 + f 4 % 4), .int .i64 (1 + f 5 % 4), .int .i64 (1 + f 6 % (1 + f 4 % 4)), .int .i64 (f 7 % 6), .int .i64 (1 + f 8 % 8), .slice none 0 0, .slice none 0 0] (w9.setCell ⟨w.heap.size + 1, 8, none⟩ (.int .i64 (1 + f 8 % 8))) from by
      have hst := S8.out.step hg hB hr hf 8 (.int .i64 (1 + f 8 % 8))
      simpa only [List.setIfInBounds_toArray, List.set_cons_zero, List.set_cons_succ] using hst)
    have E := S9.out.c
    obtain ⟨e0, e1, e2, e3, e4, e5, e6, e7, e8, e9, e10⟩ := (⟨E.at_ 0, E.at_ 1, E.at_ 2, E.at_ 3, E.at_ 4, E.at_ 5, E.at_ 6, E.at_ 7, E.at_ 8, E.at_ 9, E.at_ 10⟩ : _ ∧ _ ∧ _ ∧ _ ∧ _ ∧ _ ∧ _ ∧ _ ∧ _ ∧ _ ∧ _)
    simp only [List.getElem?_toArray, List.getElem?_cons_zero, List.getElem?_cons_succ] at e0 e1 e2 e3 e4 e5 e6 e7 e8 e9 e10
    have D := S9.out.d
    have d0 := D.at_ 0
    have d1 := D.at_ 1
    have d2 := D.at_ 2
    have d3 := D.at_ 3
    have d4 := D.at_ 4
    have d5 := D.at_ 5
    have d6 := D.at_ 6
    have d7 := D.at_ 7
    have d8 := D.at_ 8
    have d9 := D.at_ 9
    have d10 := D.at_ 10
    have g0 := D.free 0
    have g1 := D.free 1
    have g2 := D.free 2
    have g3 := D.free 3
    have g4 := D.free 4
    have g5 := D.free 5
    have g6 := D.free 6
    have g7 := D.free 7
    have g8 := D.free 8
    have g9 := D.free 9
    have g10 := D.free 10
    clear hr hf S8
    clear hc7 hf7
    go_wp2
    have hD := D.put11 (.int .i64 (1 + f 0 % 4)) (.int .i64 (1 + f 1 % 4)) (.int .i64 (1 + f 2 % (1 + f 1 % 4))) (.int .i64 (1 + f 3 % 12)) (.int .i64 (1 + f 4 % 4)) (.int .i64 (1 + f 5 % 4)) (.int .i64 (1 + f 6 % (1 + f 4 % 4))) (.int .i64 (f 7 % 6)) (.int .i64 (1 + f 8 % 8)) (.slice none 0 0) (.slice none 0 0)
    have hF := fr11 (w9.setCell ⟨w.heap.size + 1, 8, none⟩ (.int .i64 (1 + f 8 % 8))) w.heap.size (.int .i64 (1 + f 0 % 4)) (.int .i64 (1 + f 1 % 4)) (.int .i64 (1 + f 2 % (1 + f 1 % 4))) (.int .i64 (1 + f 3 % 12)) (.int .i64 (1 + f 4 % 4)) (.int .i64 (1 + f 5 % 4)) (.int .i64 (1 + f 6 % (1 + f 4 % 4))) (.int .i64 (f 7 % 6)) (.int .i64 (1 + f 8 % 8)) (.slice none 0 0) (.slice none 0 0)
    refine bodyPost_ret (results_cell_row (P := Try.prog) Try.results33 _ _ w.heap.size 25 _ (0, 0) _ rfl hD Try.underlying25 rfl (by kernel_rfl)) rfl ?_
    refine ⟨?_, S9.out.rd.fr hF (fun s hs => by simp at hs; omega), S9.out.fr.drop hF (fun s hs => by simp at hs; omega)⟩
    rw [HFF.out]
    show _ = Ending.returned (.agg #[.int .i64 (1 + f 0 % 4), .int .i64 (1 + f 1 % 4), .int .i64 (1 + f 2 % min 3 (1 + f 1 % 4)), .int .i64 (1 + f 3 % 12), .int .i64 (1 + f 4 % 4), .int .i64 (1 + f 5 % 4), .int .i64 (1 + f 6 % (1 + f 4 % 4)), .int .i64 (f 7 % 6), .int .i64 (1 + f 8 % 8), .slice none 0 0, .slice none 0 0])
    rw [HMIN.out]
  · rw [hmin] at m2
    have HMIN := Lib.hid hmin
    clear hmin
    go_enter Try.func33, Try.ntmps33
    go_wp2_with fail
    refine (next_any S0.out.rd _ (by omega) (by omega)).mono ?_
    rintro e w1 ⟨rfl, hr, hf⟩
    rw [HFF.out]
    obtain ⟨hc0, hf0⟩ : w1.cell? ⟨w.heap.size + 1, 0, none⟩ = some (.int .i64 0) ∧ w1.frozen? ⟨w.heap.size + 1, 0, none⟩ = false := S0.out.at_ hg hf 0
    have S1 := Lib.hid (show NumSt w B g zs 1 #[.int .i64 (1 + f 0 % 4), .int .i64 0, .int .i64 0, .int .i64 0, .int .i64 0, .int .i64 0, .int .i64 0, .int .i64 0, .int .i64 0, .slice none 0 0, .slice none 0 0] (w1.setCell ⟨w.heap.size + 1, 0, none⟩ (.int .i64 (1 + f 0 % 4))) from by
      have hst := S0.out.step hg hB hr hf 0 (.int .i64 (1 + f 0 % 4))
      simpa only [List.setIfInBounds_toArray, List.set_cons_zero, List.set_cons_succ] using hst)
    clear hr hf S0
    go_wp2_with fail
    refine (next_any S1.out.rd _ (by omega) (by omega)).mono ?_
    rintro e w2 ⟨rfl, hr, hf⟩
    rw [HFF.out]
    obtain ⟨hc1, hf1⟩ : w2.cell? ⟨w.heap.size + 1, 1, none⟩ = some (.int .i64 0) ∧ w2.frozen? ⟨w.heap.size + 1, 1, none⟩ = false := S1.out.at_ hg hf 1
    have S2 := Lib.hid (show NumSt w B g zs 2 #[.int .i64 (1 + f 0 % 4), .int .i64 (1 + f 1 % 4), .int .i64 0, .int .i64 0, .int .i64 0, .int .i64 0, .int .i64 0, .int .i64 0, .int .i64 0, .slice none 0 0, .slice none 0 0] (w2.setCell ⟨w.heap.size + 1, 1, none⟩ (.int .i64 (1 + f 1 % 4))) from by
      have hst := S1.out.step hg hB hr hf 1 (.int .i64 (1 + f 1 % 4))
      simpa only [List.setIfInBounds_toArray, List.set_cons_zero, List.set_cons_succ] using hst)
    clear hr hf S1
    clear hc0 hf0
    go_wp2_with fail
    refine (next_any S2.out.rd _ (by omega) (by omega)).mono ?_
    rintro e w3 ⟨rfl, hr, hf⟩
    rw [HFF.out]
    obtain ⟨hc2, hf2⟩ : w3.cell? ⟨w.heap.size + 1, 2, none⟩ = some (.int .i64 0) ∧ w3.frozen? ⟨w.heap.size + 1, 2, none⟩ = false := S2.out.at_ hg hf 2
    have S3 := Lib.hid (show NumSt w B g zs 3 #[.int .i64 (1 + f 0 % 4), .int .i64 (1 + f 1 % 4), .int .i64 (1 + f 2 % 3), .int .i64 0, .int .i64 0, .int .i64 0, .int .i64 0, .int .i64 0, .int .i64 0, .slice none 0 0, .slice none 0 0] (w3.setCell ⟨w.heap.size + 1, 2, none⟩ (.int .i64 (1 + f 2 % 3))) from by
      have hst := S2.out.step hg hB hr hf 2 (.int .i64 (1 + f 2 % 3))
      simpa only [List.setIfInBounds_toArray, List.set_cons_zero, List.set_cons_succ] using hst)
    clear hr hf S2
    clear hc1 hf1
    go_wp2_with fail
    refine (next_any S3.out.rd _ (by omega) (by omega)).mono ?_
    rintro e w4 ⟨rfl, hr, hf⟩
    rw [HFF.out]
    obtain ⟨hc3, hf3⟩ : w4.cell? ⟨w.heap.size + 1, 3, none⟩ = some (.int .i64 0) ∧ w4.frozen? ⟨w.heap.size + 1, 3, none⟩ = false := S3.out.at_ hg hf 3
    have S4 := Lib.hid (show NumSt w B g zs 4 #[.int .i64 (1 + f 0 % 4), .int .i64 (1 + f 1 % 4), .int .i64 (1 + f 2 % 3), .int .i64 (1 + f 3 % 12), .int .i64 0, .int .i64 0, .int .i64 0, .int .i64 0, .int .i64 0, .slice none 0 0, .slice none 0 0] (w4.setCell ⟨w.heap.size + 1, 3, none⟩ (.int .i64 (1 + f 3 % 12))) from by
      have hst := S3.out.step hg hB hr hf 3 (.int .i64 (1 + f 3 % 12))
      simpa only [List.setIfInBounds_toArray, List.set_cons_zero, List.set_cons_succ] using hst)
    clear hr hf S3
    clear hc2 hf2
    go_wp2_with fail
    refine (next_any S4.out.rd _ (by omega) (by omega)).mono ?_
    rintro e w5 ⟨rfl, hr, hf⟩
    rw [HFF.out]
    obtain ⟨hc4, hf4⟩ : w5.cell? ⟨w.heap.size + 1, 4, none⟩ = some (.int .i64 0) ∧ w5.frozen? ⟨w.heap.size + 1, 4, none⟩ = false := S4.out.at_ hg hf 4
    have S5 := Lib.hid (show NumSt w B g zs 5 #[.int .i64 (1 + f 0 % 4), .int .i64 (1 + f 1 % 4), .int .i64 (1 + f 2 % 3), .int .i64 (1 + f 3 % 12), .int .i64 (1 + f 4 % 4), .int .i64 0, .int .i64 0, .int .i64 0, .int .i64 0, .slice none 0 0, .slice none 0 0] (w5.setCell ⟨w.heap.size + 1, 4, none⟩ (.int .i64 (1 + f 4 % 4))) from by
      have hst := S4.out.step hg hB hr hf 4 (.int .i64 (1 + f 4 % 4))
      simpa only [List.setIfInBounds_toArray, List.set_cons_zero, List.set_cons_succ] using hst)
    clear hr hf S4
    clear hc3 hf3
    go_wp2_with fail
    refine (next_any S5.out.rd _ (by omega) (by omega)).mono ?_
    rintro e w6 ⟨rfl, hr, hf⟩
    rw [HFF.out]
    obtain ⟨hc5, hf5⟩ : w6.cell? ⟨w.heap.size + 1, 5, none⟩ = some (.int .i64 0) ∧ w6.frozen? ⟨w.heap.size + 1, 5, none⟩ = false := S5.out.at_ hg hf 5
    have S6 := Lib.hid (show NumSt w B g zs 6 #[.int .i64 (1 + f 0 % 4), .int .i64 (1 + f 1 % 4), .int .i64 (1 + f 2 % 3), .int .i64 (1 + f 3 % 12), .int .i64 (1 + f 4 % 4), .int .i64 (1 + f 5 % 4), .int .i64 0, .int .i64 0, .int .i64 0, .slice none 0 0, .slice none 0 0] (w6.setCell ⟨w.heap.size + 1, 5, none⟩ (.int .i64 (1 + f 5 % 4))) from by
      have hst := S5.out.step hg hB hr hf 5 (.int .i64 (1 + f 5 % 4))
      simpa only [List.setIfInBounds_toArray, List.set_cons_zero, List.set_cons_succ] using hst)
    have hd4 : w6.cell? ⟨w.heap.size + 1, 4, none⟩ = some (.int .i64 (1 + f 4 % 4)) := (S5.out.at_ hg hf 4).1
    clear hr hf S5
    clear hc4 hf4
    go_wp2_with fail
    refine (next_any S6.out.rd _ (by omega) (by omega)).mono ?_
    rintro e w7 ⟨rfl, hr, hf⟩
    rw [HFF.out]
    obtain ⟨hc6, hf6⟩ : w7.cell? ⟨w.heap.size + 1, 6, none⟩ = some (.int .i64 0) ∧ w7.frozen? ⟨w.heap.size + 1, 6, none⟩ = false := S6.out.at_ hg hf 6
    have S7 := Lib.hid (show NumSt w B g zs 7 #[.int .i64 (1 + f 0 % 4), .int .i64 (1 + f 1 % 4), .int .i64 (1 + f 2 % 3), .int .i64 (1 + f 3 % 12), .int .i64 (1 + f 4 % 4), .int .i64 (1 + f 5 % 4), .int .i64 (1 + f 6 % (1 + f 4 % 4)), .int .i64 0, .int .i64 0, .slice none 0 0, .slice none 0 0] (w7.setCell ⟨w.heap.size + 1, 6, none⟩ (.int .i64 (1 + f 6 % (1 + f 4 % 4)))) from by
      have hst := S6.out.step hg hB hr hf 6 (.int .i64 (1 + f 6 % (1 + f 4 % 4)))
      simpa only [List.setIfInBounds_toArray, List.set_cons_zero, List.set_cons_succ] using hst)
    clear hr hf S6
    clear hc5 hf5
    clear hd4
    go_wp2_with fail
    refine (next_any S7.out.rd _ (by omega) (by omega)).mono ?_
    rintro e w8 ⟨rfl, hr, hf⟩
    rw [HFF.out]
    obtain ⟨hc7, hf7⟩ : w8.cell? ⟨w.heap.size + 1, 7, none⟩ = some (.int .i64 0) ∧ w8.frozen? ⟨w.heap.size + 1, 7, none⟩ = false := S7.out.at_ hg hf 7
    have S8 := Lib.hid (show NumSt w B g zs 8 #[.int .i64 (1 + f 0 % 4), .int .i64 (1 + f 1 % 4), .int .i64 (1 + f 2 % 3), .int .i64 (1 + f 3 % 12), .int .i64 (1 + f 4 % 4), .int .i64 (1 + f 5 % 4), .int .i64 (1 + f 6 % (1 + f 4 % 4)), .int .i64 (f 7 % 6), .int .i64 0, .slice none 0 0, .slice none 0 0] (w8.setCell ⟨w.heap.size + 1, 7, none⟩ (.int .i64 (f 7 % 6))) from by
      have hst := S7.out.step hg hB hr hf 7 (.int .i64 (f 7 % 6))
      simpa only [List.setIfInBounds_toArray, List.set_cons_zero, List.set_cons_succ] using hst)
    clear hr hf S7
    clear hc6 hf6
    go_wp2_with fail
    refine (next_any S8.out.rd _ (by omega) (by omega)).mono ?_
    rintro e w9 ⟨rfl, hr, hf⟩
    rw [HFF.out]
    obtain ⟨hc8, hf8⟩ : w9.cell? ⟨w.heap.size + 1, 8, none⟩ = some (.int .i64 0) ∧ w9.frozen? ⟨w.heap.size + 1, 8, none⟩ = false := S8.out.at_ hg hf 8
    have S9 := Lib.hid (show NumSt w B g zs 9 #[.int .i64 (1 + f 0 % 4), .int .i64 (1 + f 1 % 4), .int .i64 (1 + f 2 % 3), .int .i64 (1 + f 3 % 12), .int .i64 (1 + f 4 % 4), .int .i64 (1 + f 5 % 4), .int .i64 (1 + f 6 % (1 + f 4 % 4)), .int .i64 (f 7 % 6), .int .i64 (1 + f 8 % 8), .slice none 0 0, .slice none 0 0] (w9.setCell ⟨w.heap.size + 1, 8, none⟩ (.int .i64 (1 + f 8 % 8))) from by
      have hst := S8.out.step hg hB hr hf 8 (.int .i64 (1 + f 8 % 8))
      simpa only [List.setIfInBounds_toArray, List.set_cons_zero, List.set_cons_succ] using hst)
    have E := S9.out.c
    obtain ⟨e0, e1, e2, e3, e4, e5, e6, e7, e8, e9, e10⟩ := (⟨E.at_ 0, E.at_ 1, E.at_ 2, E.at_ 3, E.at_ 4, E.at_ 5, E.at_ 6, E.at_ 7, E.at_ 8, E.at_ 9, E.at_ 10⟩ : _ ∧ _ ∧ _ ∧ _ ∧ _ ∧ _ ∧ _ ∧ _ ∧ _ ∧ _ ∧ _)
    simp only [List.getElem?_toArray, List.getElem?_cons_zero, List.getElem?_cons_succ] at e0 e1 e2 e3 e4 e5 e6 e7 e8 e9 e10
    have D := S9.out.d
    have d0 := D.at_ 0
    have d1 := D.at_ 1
    have d2 := D.at_ 2
    have d3 := D.at_ 3
    have d4 := D.at_ 4
    have d5 := D.at_ 5
    have d6 := D.at_ 6
    have d7 := D.at_ 7
    have d8 := D.at_ 8
    have d9 := D.at_ 9
    have d10 := D.at_ 10
    have g0 := D.free 0
    have g1 := D.free 1
    have g2 := D.free 2
    have g3 := D.free 3
    have g4 := D.free 4
    have g5 := D.free 5
    have g6 := D.free 6
    have g7 := D.free 7
    have g8 := D.free 8
    have g9 := D.free 9
    have g10 := D.free 10
    clear hr hf S8
    clear hc7 hf7
    go_wp2
    have hD := D.put11 (.int .i64 (1 + f 0 % 4)) (.int .i64 (1 + f 1 % 4)) (.int .i64 (1 + f 2 % 3)) (.int .i64 (1 + f 3 % 12)) (.int .i64 (1 + f 4 % 4)) (.int .i64 (1 + f 5 % 4)) (.int .i64 (1 + f 6 % (1 + f 4 % 4))) (.int .i64 (f 7 % 6)) (.int .i64 (1 + f 8 % 8)) (.slice none 0 0) (.slice none 0 0)
    have hF := fr11 (w9.setCell ⟨w.heap.size + 1, 8, none⟩ (.int .i64 (1 + f 8 % 8))) w.heap.size (.int .i64 (1 + f 0 % 4)) (.int .i64 (1 + f 1 % 4)) (.int .i64 (1 + f 2 % 3)) (.int .i64 (1 + f 3 % 12)) (.int .i64 (1 + f 4 % 4)) (.int .i64 (1 + f 5 % 4)) (.int .i64 (1 + f 6 % (1 + f 4 % 4))) (.int .i64 (f 7 % 6)) (.int .i64 (1 + f 8 % 8)) (.slice none 0 0) (.slice none 0 0)
    refine bodyPost_ret (results_cell_row (P := Try.prog) Try.results33 _ _ w.heap.size 25 _ (0, 0) _ rfl hD Try.underlying25 rfl (by kernel_rfl)) rfl ?_
    refine ⟨?_, S9.out.rd.fr hF (fun s hs => by simp at hs; omega), S9.out.fr.drop hF (fun s hs => by simp at hs; omega)⟩
    rw [HFF.out]
    show _ = Ending.returned (.agg #[.int .i64 (1 + f 0 % 4), .int .i64 (1 + f 1 % 4), .int .i64 (1 + f 2 % min 3 (1 + f 1 % 4)), .int .i64 (1 + f 3 % 12), .int .i64 (1 + f 4 % 4), .int .i64 (1 + f 5 % 4), .int .i64 (1 + f 6 % (1 + f 4 % 4)), .int .i64 (f 7 % 6), .int .i64 (1 + f 8 % 8), .slice none 0 0, .slice none 0 0])
    rw [HMIN.out]
end Go.Proofs.Ytnpnamgeajifkaa
