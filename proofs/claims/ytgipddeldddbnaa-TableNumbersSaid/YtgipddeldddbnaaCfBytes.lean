/-
  Bytes that lie below a block, as a list of numbers; eleven cells stored. No function of the program is named.
-/
import Derived.Test.YtgipddeldddbnaaCfOwn
namespace Go.Proofs.Ytgipddeldddbnaa
open Go Go.RowKit

/-- The slice (a, n) reads as the bytes zs, in a block below B. -/
def InB (w : World) (B : Nat) (a : Option Addr) (n : Nat) (zs : List Int) : Prop :=
  zs.length = n ∧ n ≤ maxLen ∧ ∀ i, i < n → ∃ x : Addr, a = some x ∧ x.block < B ∧ w.cell? (x.add i) = some (.int .u8 (zs.getD i 0)) ∧ 0 ≤ zs.getD i 0 ∧ zs.getD i 0 ≤ 255
theorem InB.fr {w w' : World} {B : Nat} {a : Option Addr} {n : Nat} {zs : List Int} {S : List Nat} (h : InB w B a n zs) (hB : B ≤ w.heap.size) (hb : Fr S w w') (hS : ∀ s, s ∈ S → B ≤ s) : InB w' B a n zs :=
  ⟨h.1, h.2.1, fun i hi => by
    obtain ⟨x, e, hx, hc, hr⟩ := h.2.2 i hi
    refine ⟨x, e, hx, ?_, hr⟩
    have hk := hb.block x.block (by omega) (fun hm => by have := hS _ hm; omega)
    rw [World.cell?_of_block (w := w) (by rw [block_add]; exact hk)]
    exact hc⟩
theorem InB.below {w w' : World} {B : Nat} {a : Option Addr} {n : Nat} {zs : List Int} (h : InB w B a n zs) (_hB : B ≤ w.heap.size) (hb : Below B w w') : InB w' B a n zs :=
  ⟨h.1, h.2.1, fun i hi => by
    obtain ⟨x, e, hx, hc, hr⟩ := h.2.2 i hi
    refine ⟨x, e, hx, ?_, hr⟩
    rw [hb.cell (by rw [block_add]; exact hx)]
    exact hc⟩
theorem InB.mono {w : World} {B B' : Nat} {a : Option Addr} {n : Nat} {zs : List Int} (h : InB w B a n zs) (hB : B ≤ B') : InB w B' a n zs :=
  ⟨h.1, h.2.1, fun i hi => by
    obtain ⟨x, e, hx, r⟩ := h.2.2 i hi
    exact ⟨x, e, by omega, r⟩⟩
theorem inB_nil (w : World) (B : Nat) (a : Option Addr) : InB w B a 0 [] := ⟨rfl, by omega, fun i hi => by omega⟩
/-- What is left behind the first byte. -/
theorem InB.rest {w : World} {B : Nat} {x : Addr} {n : Nat} {zs : List Int} (h : InB w B (some x) n zs) (hn : 1 ≤ n) : InB w B (some (x.add 1)) (n - 1) (zs.drop 1) := by
  refine ⟨by rw [List.length_drop, h.1], by have := h.2.1; omega, fun i hi => ?_⟩
  obtain ⟨y, e, hx, hc, hr⟩ := h.2.2 (1 + i) (by omega)
  cases e
  have eg : (zs.drop 1).getD i 0 = zs.getD (1 + i) 0 := by
    rw [List.getD_eq_getElem?_getD, List.getD_eq_getElem?_getD, List.getElem?_drop]
  refine ⟨_, rfl, by rw [block_add]; exact hx, ?_, ?_⟩
  · rw [Go.Deep.add_add, eg]
    exact hc
  · rw [eg]
    exact hr

theorem strm_drop (zs : List Int) (i : Nat) : (zs.drop i).getD 0 0 = strm zs i := by
  unfold strm
  rw [List.getD_eq_getElem?_getD, List.getD_eq_getElem?_getD, List.getElem?_drop, Nat.add_zero]

/-- Eleven cells stored. -/
theorem Blk.put11 {w : World} {g : Nat} {t : TypeId} {a0 a1 a2 a3 a4 a5 a6 a7 a8 a9 a10 : Value} (h : Blk w g t #[a0, a1, a2, a3, a4, a5, a6, a7, a8, a9, a10]) (v0 v1 v2 v3 v4 v5 v6 v7 v8 v9 v10 : Value) : Blk (((((((((((w.setCell ⟨g, 0, none⟩ v0).setCell ⟨g, 1, none⟩ v1).setCell ⟨g, 2, none⟩ v2).setCell ⟨g, 3, none⟩ v3).setCell ⟨g, 4, none⟩ v4).setCell ⟨g, 5, none⟩ v5).setCell ⟨g, 6, none⟩ v6).setCell ⟨g, 7, none⟩ v7).setCell ⟨g, 8, none⟩ v8).setCell ⟨g, 9, none⟩ v9).setCell ⟨g, 10, none⟩ v10) g t #[v0, v1, v2, v3, v4, v5, v6, v7, v8, v9, v10] := by
  have := (((((((((((h.put 0 v0).put 1 v1).put 2 v2).put 3 v3).put 4 v4).put 5 v5).put 6 v6).put 7 v7).put 8 v8).put 9 v9).put 10 v10)
  simpa only [List.setIfInBounds_toArray, List.set_cons_zero, List.set_cons_succ] using this
theorem fr11 (w : World) (g : Nat) (v0 v1 v2 v3 v4 v5 v6 v7 v8 v9 v10 : Value) : Fr [g] w (((((((((((w.setCell ⟨g, 0, none⟩ v0).setCell ⟨g, 1, none⟩ v1).setCell ⟨g, 2, none⟩ v2).setCell ⟨g, 3, none⟩ v3).setCell ⟨g, 4, none⟩ v4).setCell ⟨g, 5, none⟩ v5).setCell ⟨g, 6, none⟩ v6).setCell ⟨g, 7, none⟩ v7).setCell ⟨g, 8, none⟩ v8).setCell ⟨g, 9, none⟩ v9).setCell ⟨g, 10, none⟩ v10) :=
  ((((((((((((Fr.refl [g] w).setCell (p := ⟨g, 0, none⟩) (.inl (List.mem_singleton.2 rfl)) v0).setCell (p := ⟨g, 1, none⟩) (.inl (List.mem_singleton.2 rfl)) v1).setCell (p := ⟨g, 2, none⟩) (.inl (List.mem_singleton.2 rfl)) v2).setCell (p := ⟨g, 3, none⟩) (.inl (List.mem_singleton.2 rfl)) v3).setCell (p := ⟨g, 4, none⟩) (.inl (List.mem_singleton.2 rfl)) v4).setCell (p := ⟨g, 5, none⟩) (.inl (List.mem_singleton.2 rfl)) v5).setCell (p := ⟨g, 6, none⟩) (.inl (List.mem_singleton.2 rfl)) v6).setCell (p := ⟨g, 7, none⟩) (.inl (List.mem_singleton.2 rfl)) v7).setCell (p := ⟨g, 8, none⟩) (.inl (List.mem_singleton.2 rfl)) v8).setCell (p := ⟨g, 9, none⟩) (.inl (List.mem_singleton.2 rfl)) v9).setCell (p := ⟨g, 10, none⟩) (.inl (List.mem_singleton.2 rfl)) v10)

abbrev zero11 : Array Value := #[.int .i64 0, .int .i64 0, .int .i64 0, .int .i64 0, .int .i64 0, .int .i64 0, .int .i64 0, .int .i64 0, .int .i64 0, .slice none 0 0, .slice none 0 0]

/-- A reader that stands where it stood while other blocks change. -/
def Stable (Rd : World → Nat → Nat → List Int → Nat → Prop) : Prop :=
  ∀ {w w' : World} {B g : Nat} {zs : List Int} {i : Nat} {S : List Nat}, Rd w B g zs i → Fr S w w' → (∀ s, s ∈ S → B ≤ s ∧ s ≠ g) → Rd w' B g zs i
end Go.Proofs.Ytgipddeldddbnaa
