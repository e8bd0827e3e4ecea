/-
  Contracts of package memory: New, Size, Peek, Count, Last, Cells.
-/
import Derived.Test.YthiiidkkdlmneaaMemAcc
import Derived.Test.YthiiidkkdlmneaaMgAA
import Derived.Maps.AppendAt
import Derived.OwnWalk
import Derived.Deep.RegionHeld3
import Derived.Deep.OwnRows
namespace Go.Proofs.Ythiiidkkdlmneaa
open Go Go.RowKit Go.Shelf

theorem msize_any {w : World} {p g cap : Nat} {s : St} (h : Mem w p g cap s) :
    Calls Try.prog 14 #[.pointer (some ⟨p, 0, none⟩)] w fun e w' => e = .returned (.int .i64 s.X.length) ∧ w = w' := by
  have h0 : w.cell? ⟨p, 0, none⟩ = some (.slice (some ⟨g, 0, none⟩) s.X.length cap) := h.blk.at_ 0
  go_enter Try.func14, Try.ntmps14
  go_wp2
  go_ret
  exact ⟨rfl, rfl⟩

theorem count_any {w : World} {p g cap : Nat} {s : St} (h : Mem w p g cap s) :
    Calls Try.prog 35 #[.pointer (some ⟨p, 0, none⟩)] w fun e w' => e = .returned (.int .i64 s.c) ∧ w = w' := by
  have h0 : w.cell? ⟨p, 1, none⟩ = some (.int .i64 s.c) := h.blk.at_ 1
  go_enter Try.func35, Try.ntmps35
  go_wp2
  go_ret
  exact ⟨rfl, rfl⟩

/-- The last access, as a value. -/
def St.last (s : St) : Value := .agg #[.int .i64 s.k, .int .i64 s.i, .int .u64 s.o, .int .u64 s.v]

theorem last_any {w : World} {p g cap : Nat} {s : St} (h : Mem w p g cap s) :
    Calls Try.prog 36 #[.pointer (some ⟨p, 0, none⟩)] w fun e w' => e = .returned (.agg #[.int .i64 s.k, .int .i64 s.i, .int .u64 s.o, .int .u64 s.v]) ∧ Below w.heap.size w w' := by
  have h2 : w.cell? ⟨p, 2, none⟩ = some (.int .i64 s.k) := h.blk.at_ 2
  have h3 : w.cell? ⟨p, 3, none⟩ = some (.int .i64 s.i) := h.blk.at_ 3
  have h4 : w.cell? ⟨p, 4, none⟩ = some (.int .u64 s.o) := h.blk.at_ 4
  have h5 : w.cell? ⟨p, 5, none⟩ = some (.int .u64 s.v) := h.blk.at_ 5
  have hl := h.blk.lt
  go_enter Try.func36, Try.ntmps36
  go_wp2
  exact bodyPost_ret (v := .agg #[.int .i64 s.k, .int .i64 s.i, .int .u64 s.o, .int .u64 s.v]) (by simp [results, Try.results36, go_sem]) rfl ⟨rfl, (Below.refl _ _).alloc (Nat.le_refl _) _⟩

theorem Row.alloc {w : World} {g n cap : Nat} {X : List Int} (h : Row w g n cap X) (o : Obj) : Row (w.alloc o) g n cap X := h.of_same (Below.heap_alloc w o g h.lt)

theorem new_mem (w : World) (n : Nat) (hn : n ≤ 131072) :
    Mem ((w.alloc (.cells (madeCells #[.int .u64 0] n) 50)).alloc (.cells #[.slice (some ⟨w.heap.size, 0, none⟩) n n, .int .i64 0, .int .i64 0, .int .i64 0, .int .u64 0, .int .u64 0] 102)) (w.heap.size + 1) w.heap.size n (St.new n) := by
  refine ⟨?_, ?_, by simpa [St.new] using hn⟩
  · have := Blk.made (w.alloc (.cells (madeCells #[.int .u64 0] n) 50)) 102 #[.slice (some ⟨w.heap.size, 0, none⟩) n n, .int .i64 0, .int .i64 0, .int .i64 0, .int .u64 0, .int .u64 0]
    simpa [St.new] using this
  · have := (made_row w n hn).alloc (.cells #[.slice (some ⟨w.heap.size, 0, none⟩) n n, .int .i64 0, .int .i64 0, .int .i64 0, .int .u64 0, .int .u64 0] 102)
    simpa [St.new] using this


theorem mnew_any (c : Int) (w : World) :
    Calls Try.prog 46 #[.int .i64 c] w fun e w' => e = .returned (.pointer (some ⟨w.heap.size + 1, 0, none⟩)) ∧ Mem w' (w.heap.size + 1) w.heap.size (sizeS c) (St.new (sizeS c)) ∧ Below w.heap.size w w' := by
  have hmk := fun (n : Nat) (hn : n ≤ 131072) (W : World) => run_make_row' (P := Try.prog) 57 50 (.int .u64 0) 8 Try.underlying57 info_u64 rfl .i64 .i64 n (by omega) (by omega) W
  have hb : ∀ o o' : Obj, Below w.heap.size w ((w.alloc o).alloc o') := fun o o' => ((Below.refl _ _).alloc (Nat.le_refl _) _).alloc (by simp) _
  have HM := Lib.hid (new_mem w)
  have HB := Lib.hid hb
  clear hb
  by_cases h1 : c < 0
  · have e : sizeS c = 0 := by unfold sizeS; rw [if_pos (by omega)]
    rw [e]
    clear e
    have hk := hmk 0 (by omega)
    rw [show ((0 : Nat) : Int) = 0 from rfl] at hk
    clear hmk
    go_enter Try.func46, Try.ntmps46
    go_wp2
    go_ret
    exact ⟨rfl, HM.out 0 (by omega), HB.out _ _⟩
  · by_cases h2 : c ≤ 131072
    · obtain ⟨n, rfl⟩ : ∃ n : Nat, c = (n : Int) := ⟨c.toNat, by omega⟩
      have e : sizeS n = n := by unfold sizeS; split <;> omega
      rw [e]
      clear e
      have hk := hmk n (by omega)
      clear hmk
      go_enter Try.func46, Try.ntmps46
      go_wp2
      go_ret
      exact ⟨rfl, HM.out n (by omega), HB.out _ _⟩
    · have e : sizeS c = 131072 := by unfold sizeS; split <;> omega
      rw [e]
      clear e
      have hk := hmk 131072 (by omega)
      rw [show ((131072 : Nat) : Int) = 131072 from rfl] at hk
      clear hmk
      go_enter Try.func46, Try.ntmps46
      go_wp2
      go_ret
      exact ⟨rfl, HM.out 131072 (by omega), HB.out _ _⟩

/-- What slices.Clone gives: a row of the call's own, with the same cells. -/
def Cloned (w : World) (n : Nat) (X : List Int) (e : Ending) (w' : World) : Prop :=
  ∃ g cap : Nat, e = .returned (.slice (some ⟨g, 0, none⟩) n cap) ∧ w.heap.size ≤ g ∧ Row w' g n cap X ∧ Below w.heap.size w w'

theorem cloned_of {w w1 : World} {n : Nat} {X : List Int} {v' : Value} (hown : w1.ownsRow w.heap.size 50 1 v' (0 + n) ([] ++ X.map (Value.int .u64))) (hgrow : (w.alloc (.cells #[] 50)).grownBy w1 (Value.ownBlock (.slice (some ⟨w.heap.size, 0, none⟩) 0 0)))
    (hnil : v' = .slice none 0 0 ↔ Value.slice (some ⟨w.heap.size, 0, none⟩) 0 0 = .slice none 0 0 ∧ n = 0) :
    Cloned w n X (.returned v') w1 := by
  have hv : v' ≠ .slice none 0 0 := fun e => by
    have := hnil.1 e
    simp at this
  obtain ⟨g', cap', rfl, hB, hr⟩ := Row.of_own (n := n) (X := X) (by simpa using hown) hv
  exact ⟨g', cap', rfl, hB, hr, ((Below.refl _ _).alloc (Nat.le_refl _) _).grown hgrow (by simp) (by simp [Value.ownBlock])⟩

theorem clone_any {w : World} {g n cap : Nat} {X : List Int} (h : Row w g n cap X) (hn : n ≤ 131072) :
    Calls Try.prog 62 #[.slice (some ⟨g, 0, none⟩) n cap] w (Cloned w n X) := by
  have qT : ∀ (w : World) (a : Option Addr) (n c n' c' : Nat), (binOp .eql 57 (.slice a n c) (.slice none n' c')).run Try.prog w = .ok (.bool a.isNone) w := fun w a n c n' c' => Lib.run_eql_slice_nil w _ _ a n c n' c' Try.underlying57
  obtain ⟨i0, hi, hz0, hz1, hz2⟩ := info_parts info_u64
  go_enter Try.func62, Try.ntmps62
  go_wp2_with
    (at_builtin
     refine wpList_append_own_at _ rfl (.tmp 5) (.tmp 6) _ rfl w.heap.size 50 i0 _ 1 8 Try.underlying57 hi hz0 hz1 hz2 rfl (by omega) (.slice (some ⟨w.heap.size, 0, none⟩) 0 0) 0 [] rfl
       (World.ownsRow_made w #[] 0 (Nat.le_refl _) (by unfold maxLen; omega) rfl) ⟨g, 0, none⟩ n cap (X.map (Value.int .u64)) rfl (by simpa using h.len) ((h.alloc _).own.cells rfl) (by simp [Value.oneCell'])
       (by unfold maxLen; omega) (by omega) (by simp) ?_
     intro v' w1 hown hgrow hnil hat)
  go_ret
  exact cloned_of hown hgrow hnil

theorem cells_any {w : World} {p g cap : Nat} {s : St} (h : Mem w p g cap s) :
    Calls Try.prog 34 #[.pointer (some ⟨p, 0, none⟩)] w (Cloned w s.X.length s.X) := by
  have h0 : w.cell? ⟨p, 0, none⟩ = some (.slice (some ⟨g, 0, none⟩) s.X.length cap) := h.blk.at_ 0
  have H := Lib.hid (clone_any h.row h.small)
  have hN : ∀ e w', Cloned w s.X.length s.X e w' → ∃ v, e = .returned v ∧ Cloned w s.X.length s.X (.returned v) w' := fun e w' ⟨g', cap', he, hr⟩ => ⟨_, he, g', cap', rfl, hr⟩
  have HN := Lib.hid hN
  clear hN
  go_enter Try.func34, Try.ntmps34
  go_wp2_with fail
  refine H.out.mono ?_
  intro e w' hC
  obtain ⟨v, rfl, hC⟩ := HN.out e w' hC
  go_wp2
  go_ret
  exact hC
end Go.Proofs.Ythiiidkkdlmneaa
