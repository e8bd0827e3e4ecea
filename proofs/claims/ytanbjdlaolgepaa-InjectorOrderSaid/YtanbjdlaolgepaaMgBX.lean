/-
  Slices of uint64 that a call reads. No function is named.
  Package edf: Push and Pop.
-/
import Derived.Test.YtanbjdlaolgepaaMgAA
import Derived.Test.YtanbjdlaolgepaaMgAH
import Derived.Test.YtanbjdlaolgepaaEdM
import Derived.Test.YtanbjdlaolgepaaMgBV
import Derived.Test.YtanbjdlaolgepaaMgAG
import Derived.LoopTactic
import Derived.Deep.Cut
import Derived.Deep.CutRange
import Derived.Laws.CopyOwn
namespace Go.Proofs.Ytanbjdlaolgepaa
open Go Go.RowKit

/-- The slice (a, n) reads as the words X. -/
def InW (w : World) (a : Option Addr) (n : Nat) (X : List Int) : Prop :=
  X.length = n ∧ n ≤ maxLen ∧ ∀ i, i < n → ∃ x : Addr, a = some x ∧ x.block < w.heap.size ∧ w.cell? (x.add i) = some (.int .u64 (X.getD i 0))
theorem InW.below {w w' : World} {a : Option Addr} {n : Nat} {X : List Int} (h : InW w a n X) (hb : Below w.heap.size w w') : InW w' a n X :=
  ⟨h.1, h.2.1, fun i hi => by
    obtain ⟨x, e, hx, hc⟩ := h.2.2 i hi
    exact ⟨x, e, Nat.lt_of_lt_of_le hx hb.size, (hb.cell (by rw [block_add]; exact hx)).trans hc⟩⟩
theorem InW.cell {w : World} {x : Addr} {n i : Nat} {X : List Int} (h : InW w (some x) n X) (hi : i < n) : w.cell? (x.add i) = some (.int .u64 (X.getD i 0)) := by
  obtain ⟨y, e, _, hc⟩ := h.2.2 i hi
  cases e
  exact hc
theorem Row.inW {w : World} {g n cap : Nat} {X : List Int} (h : Row w g n cap X) : InW w (some ⟨g, 0, none⟩) n X :=
  ⟨h.len, Nat.le_trans h.le h.max, fun i hi => ⟨_, rfl, h.lt, by
    have e : (⟨g, 0, none⟩ : Addr).add i = ⟨g, i, none⟩ := by unfold Addr.add; split <;> simp_all
    rw [e]
    exact h.cell hi⟩⟩
end Go.Proofs.Ytanbjdlaolgepaa

namespace Go.Proofs.Ytanbjdlaolgepaa
open Go Go.RowKit
set_option linter.unusedSimpArgs false
set_option linter.unusedVariables false

/-- The slice v reads as the words X. -/
def WV (w : World) (v : Value) (X : List Int) : Prop := ∃ (a : Option Addr) (n c : Nat), v = .slice a n c ∧ InW w a n X ∧ n ≤ c ∧ (a = none → c = 0)
theorem WV.below {w w' : World} {v : Value} {X : List Int} (h : WV w v X) (hb : Below w.heap.size w w') : WV w' v X := by
  obtain ⟨a, n, c, rfl, hi, hc, ha⟩ := h
  exact ⟨a, n, c, rfl, hi.below hb, hc, ha⟩
theorem WV.nil (w : World) : WV w (.slice none 0 0) [] := ⟨none, 0, 0, rfl, ⟨rfl, by simp, fun i hi => absurd hi (by omega)⟩, Nat.le_refl _, fun _ => rfl⟩
theorem Row.wv {w : World} {g n c : Nat} {X : List Int} (h : Row w g n c X) : WV w (.slice (some ⟨g, 0, none⟩) n c) X := ⟨_, n, c, rfl, h.inW, h.le, fun e => by cases e⟩
theorem OwnW.wv {w : World} {B : Nat} {v : Value} {X : List Int} (h : OwnW w B v X) : WV w v X := by
  by_cases hv : v = .slice none 0 0
  · subst hv
    have : X.length = 0 := by
      rcases h.2 with ⟨_, h2⟩ | ⟨g, cap, cur, e, _⟩
      · exact h2
      · cases e
    obtain rfl := List.eq_nil_of_length_eq_zero this
    exact WV.nil w
  · obtain ⟨g, cap, rfl, _, hr⟩ := Row.of_own h hv
    exact hr.wv
/-- v is a new slice with the words Y. -/
def NewW (w w' : World) (v : Value) (Y : List Int) : Prop := ∃ (g n c : Nat), v = .slice (some ⟨g, 0, none⟩) n c ∧ w.heap.size ≤ g ∧ Row w' g n c Y ∧ Below w.heap.size w w'
theorem NewW.wv {w w' : World} {v : Value} {Y : List Int} (h : NewW w w' v Y) : WV w' v Y := by
  obtain ⟨g, n, c, rfl, _, hr, _⟩ := h
  exact hr.wv
theorem NewW.b {w w' : World} {v : Value} {Y : List Int} (h : NewW w w' v Y) : Below w.heap.size w w' := by
  obtain ⟨g, n, c, rfl, _, hr, hb⟩ := h
  exact hb
theorem row_elt {w : World} {g n c : Nat} {X : List Int} (h : Row w g n c X) {i : Nat} (hi : i < n) : w.cell? ⟨g, i, none⟩ = some (.int .u64 (elt X i)) := h.cell hi

set_option maxRecDepth 100000 in
theorem parent_any {w : World} (i : Nat) (h : 0 < i) (hi : i ≤ 100000) : Calls Try.prog 39 #[.int .i64 i] w fun e w' => e = .returned (.int .i64 (((i - 1) / 2 : Nat) : Int)) ∧ w' = w := by
  have h1 : ((i : Int) - 1) = ((i - 1 : Nat) : Int) := by omega
  go_enter Try.func39, Try.ntmps39
  go_wp2
  go_ret
  refine ⟨?_, rfl⟩
  go_num
set_option maxRecDepth 100000 in
theorem firstChild_any {w : World} (i : Nat) (hi : i ≤ 100000) : Calls Try.prog 40 #[.int .i64 i] w fun e w' => e = .returned (.int .i64 ((2 * i + 1 : Nat) : Int)) ∧ w' = w := by
  go_enter Try.func40, Try.ntmps40
  go_wp2
  go_ret
  refine ⟨?_, rfl⟩
  go_num

/-- A new list of n places. -/
theorem copied_row {w' : World} {g n : Nat} {X : List Int} (h : w'.heap[g]? = some (.cells (splice (List.replicate n (Value.int .u64 0)) 0 ((X.take n).map (Value.int .u64))).toArray 48 (0, 0))) (hn : n ≤ 1000) : Row w' g n n (X.take n ++ List.replicate (n - X.length) 0) := by
  have hl : (splice (List.replicate n (Value.int .u64 0)) 0 ((X.take n).map (Value.int .u64))) = (X.take n ++ List.replicate (n - X.length) 0).map (Value.int .u64) := by
    unfold splice
    simp only [List.take_zero, List.nil_append, Nat.zero_add, List.length_map, List.length_take, List.drop_replicate, List.map_append, List.map_replicate]
    rw [show n - min n X.length = n - X.length by omega]
  have hll : ((X.take n ++ List.replicate (n - X.length) 0).map (Value.int .u64)).length = n := by simp; omega
  rw [hl] at h
  refine ⟨by simpa using hll, Nat.le_refl _, by unfold maxLen; omega, _, h, by simpa using hll, ?_⟩
  rw [List.take_of_length_le (by simpa using Nat.le_of_eq hll)]
theorem made_list (w : World) (n : Nat) : (w.alloc (.cells (madeCells #[.int .u64 0] n) 48)).heap[w.heap.size]? = some (.cells (List.replicate n (Value.int .u64 0)).toArray 48 (0, 0)) := by
  have h := Blk.made w 48 (madeCells #[.int .u64 0] n)
  unfold Blk at h
  rw [h]
  congr 2
  apply Array.ext
  · simp [madeCells]
  · intro i h1 h2
    simp [madeCells, Nat.mod_one]
set_option maxRecDepth 100000 in
theorem copied_any {w : World} {v : Value} {X : List Int} {N : Int} (n : Nat) (h : WV w v X) (hN : N = (n : Int)) (hn : n ≤ 1000) :
    Calls Try.prog 25 #[v, .int .i64 N] w fun e w' => e = .returned (.slice (some ⟨w.heap.size, 0, none⟩) n n) ∧ Row w' w.heap.size n n (X.take n ++ List.replicate (n - X.length) 0) ∧ Below w.heap.size w w' := by
  subst hN
  obtain ⟨a, m, c, rfl, hi, hc, ha⟩ := h
  have hmk := fun (W : World) => run_make_row' (P := Try.prog) 41 48 (.int .u64 0) 8 Try.underlying41 info_u64 rfl .i64 .i64 n (by omega) (by omega) W
  have HI := Lib.hid hi
  have HC := Lib.hid (And.intro hc ha)
  have hsz : (Try.prog.info? 48).map (·.size) = some 1 := by kernel_rfl
  clear hi hc ha
  go_enter Try.func25, Try.ntmps25
  go_wp2_with
    (with_reducible show wpList _ _ _ _ _ _
     refine wpList_copy_splice (o := ⟨some 10, _, _, _, _, _⟩) rfl (.tmp 8) (.tmp 9) 41 41 rfl 48 Try.underlying41 hsz (some ⟨w.heap.size, 0, none⟩) a n n m c ?_ ?_ w.heap.size 0 (List.replicate n (Value.int .u64 0)) 48 (made_list w n) ((X.take n).map (Value.int .u64)) ?_ ?_ ?_ ?_ w.heap.size w (below_one _ _) (Nat.le_refl _) ?_
     · rfl
     · rfl
     · have := HI.out.1
       simp [this, Nat.min_comm]
     · intro hp
       have hl := HI.out.1
       have h0 : 0 < m := by
         simp at hp
         omega
       obtain ⟨x, rfl, _, _⟩ := HI.out.2.2 0 h0
       refine ⟨rfl, x, rfl, fun j u hj => ?_⟩
       have hx := HI.out
       rw [(hx.below (below_one w _)).cell (i := j) (by
         have := (List.getElem?_eq_some_iff.1 hj).1
         simp at this
         omega), ← hj, List.getElem?_map, List.getElem?_take, List.getD_eq_getElem?_getD]
       have hjn : j < n ∧ j < X.length := by
         have := (List.getElem?_eq_some_iff.1 hj).1
         simp at this
         omega
       rw [if_pos hjn.1, List.getElem?_eq_getElem hjn.2]
       rfl
     · simp
       omega
     · intro u hu
       obtain ⟨x, _, rfl⟩ := List.mem_map.1 hu
       rfl
     intro w2 HG hB)
  go_ret
  exact ⟨rfl, copied_row HG.out hn, hB⟩
set_option maxRecDepth 100000 in
set_option maxHeartbeats 2000000 in
theorem rise_any {w : World} {g n cap i : Nat} {X : List Int} (k : Int) (h : Row w g n cap X) (hi : i < n) (hn : n ≤ 1000) :
    Calls Try.prog 26 #[.slice (some ⟨g, 0, none⟩) n cap, .int .i64 i, .int .u64 k] w fun e w' => e = .returned (.tuple #[]) ∧ Row w' g n cap (riseE X i k) ∧ Fr [g] w w' := by
  have H := Lib.hid h
  clear h
  go_enter Try.func26, Try.ntmps26
  go_wp2_with fail
  go_step3
  go_wp2_with fail
  go_step3
  go_wp2_with fail
  go_loopw [1] (fun v wr => ∃ (j : Nat) (Y : List Int), v = .int .i64 j ∧ j < n ∧ riseE Y j k = riseE X i k ∧ Row wr g n cap Y ∧ Fr [g] w wr) (fun v _ => (intOf v).toNat)
  case atStart => exact ⟨i, X, rfl, hi, rfl, H.out, Fr.refl _ _⟩
  case round =>
    obtain ⟨j, Y, rfl, hj, he, hr, hf⟩ := hrel
    have HE := Lib.hid he
    have HR := Lib.hid hr
    have HF := Lib.hid hf
    have hYl : Y.length = n := hr.len
    clear he hr hf H
    by_cases h0 : j = 0
    · have c1 := row_elt HR.out hj
      have f1 := HR.out.free j
      subst h0
      go_wp2
      rw [Exit.noGoto_normal]
      go_end0
      refine ⟨rfl, ?_, HF.out.setCell (.inl (List.mem_singleton.2 rfl)) _⟩
      rw [← HE.out, riseE_end (.inl rfl)]
      exact HR.out.put k
    · have hp : (j - 1) / 2 < n := by omega
      have c1 := row_elt HR.out hj
      have c2 := row_elt HR.out hp
      have f1 := HR.out.free j
      have d0 : decide ((j : Int) = 0) = false := decide_eq_false (by omega)
      have hp0 := parent_any (w := wr) j (by omega) (by omega)
      generalize hP : (j - 1) / 2 = p at *
      go_wp2_with fail
      (with_reducible refine hp0.mono ?_)
      rintro e w1 ⟨rfl, rfl⟩
      by_cases hle : elt Y p ≤ k
      · go_wp2
        rw [Exit.noGoto_normal]
        go_end0
        refine ⟨rfl, ?_, HF.out.setCell (.inl (List.mem_singleton.2 rfl)) _⟩
        rw [← HE.out, riseE_end (.inr (by rw [hP]; omega))]
        exact HR.out.put k
      · go_wp2
        go_roundw
        case rel =>
          refine ⟨p, Y.set j (elt Y p), rfl, hp, ?_, HR.out.put _, HF.out.setCell (.inl (List.mem_singleton.2 rfl)) _⟩
          rw [← HE.out, riseE_go h0 (by rw [hP]; omega), hP]
        case measure => simp [intOf]; omega
end Go.Proofs.Ytanbjdlaolgepaa
