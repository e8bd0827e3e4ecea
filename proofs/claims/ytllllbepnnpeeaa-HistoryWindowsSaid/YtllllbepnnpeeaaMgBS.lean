/-
  The reference's Same: are two lists of operations equal?
  Stage 11: awake; what the laws lay out of a plan.
  The keep's Short, of one and of two lists of numbers.
  The keep's Number of one number.
  Stage 11: a game on a plan of a law: what its operations have.
  The walk of the statement HistoryLinearizable: it returns true.
  Slices of uint64 and of int (with their ranges) that came in, opened.
-/
import Derived.Test.YtllllbepnnpeeaaMgBE
import Derived.Test.YtllllbepnnpeeaaMgAQ
import Derived.LoopTactic
import Derived.Deep.QuietTactic
import Derived.BigQuiet
import Derived.Lib.Hide
import Derived.Test.YtllllbepnnpeeaaMgBD
import Derived.Test.YtllllbepnnpeeaaMgBM
import Derived.Test.YtllllbepnnpeeaaPlnD
import Derived.Test.YtllllbepnnpeeaaMgBR
import Derived.Test.YtllllbepnnpeeaaMgAB
import Derived.Test.YtllllbepnnpeeaaMgAW
import Derived.Test.YtllllbepnnpeeaaMgAA
import Derived.OwnWalk
import Derived.Deep.Cut
import Derived.Deep.CutRange
import Derived.Test.YtllllbepnnpeeaaMgAS
import Derived.Test.YtllllbepnnpeeaaMgAP
import Derived.ChangeSlices
import Derived.Laws.IdiomArrays
namespace Go.Proofs.Ytllllbepnnpeeaa
open Go Go.RowKit
set_option linter.unusedSimpArgs false

theorem op_eq (x y : OpR) (u : World) : (Op.equalIn 10000 28 (.agg (opC x)) (.agg (opC y))).run Try.prog u = .ok (decide (x = y)) u := by
  rw [show (10000 : Nat) = 9999 + 1 from rfl, run_equalIn_struct u 9999 28 _ _ (by kernel_rfl) (by kernel_rfl)]
  have h := eqFields_ints 9998 [x.k, x.m, x.a, x.b, x.c, x.v] [y.k, y.m, y.a, y.b, y.c, y.v] u (Try.prog.fieldsOf 28).toList [0, 1, 2, 3, 4, 5] (by kernel_rfl) (by simp)
  simp only [List.map_cons, List.map_nil] at h
  refine h.trans (congrArg (fun b => Result.ok b u) ?_)
  clear h
  rw [Bool.eq_iff_iff, decide_eq_true_iff]
  obtain ⟨x0, x1, x2, x3, x4, x5⟩ := x
  obtain ⟨y0, y1, y2, y3, y4, y5⟩ := y
  simp
theorem op_ne (x y : OpR) (u : World) : (binOp .neq 28 (.agg (opC x)) (.agg (opC y))).run Try.prog u = .ok (.bool (!decide (x = y))) u := by
  simp only [binOp, Op.equal, Op.maxDepth, Sem.run_bind, Sem.run_pure]
  rw [op_eq x y u]
  rfl

/-- What Same gives. -/
def SameO (xs ys : List OpR) (w : World) (e : Ending) (w' : World) : Prop := e = .returned (.bool (decide (xs = ys))) ∧ ∃ d, w' = w.drewN d

theorem otake_more {zs ys : List OpR} {j : Nat} {u : OpR} (h1 : zs[j]? = some u) (h2 : ys[j]? = some u) (ht : zs.take j = ys.take j) : zs.take (j + 1) = ys.take (j + 1) := by
  rw [List.take_add_one, List.take_add_one, ht, h1, h2]

set_option maxRecDepth 100000 in
set_option maxHeartbeats 2000000 in
theorem opsame_any {w : World} {a b : Option Addr} {xs ys : List OpR} (h : InOp w a xs) (h' : InOp w b ys) (c c' : Nat) :
    Calls Try.prog 30 #[.slice a xs.length c, .slice b ys.length c'] w (SameO xs ys w) := by
  have hmax := InOp.len h
  unfold maxLen at hmax
  obtain ⟨n, hn⟩ : ∃ n, xs.length = n := ⟨_, rfl⟩
  obtain ⟨m, hm⟩ : ∃ m, ys.length = m := ⟨_, rfl⟩
  rw [hn, hm]
  rw [hn] at hmax
  have HL := Lib.hid (And.intro hn hm)
  clear hn hm
  by_cases hnm : n = m
  · subst hnm
    have H := Lib.hid h
    have H' := Lib.hid h'
    clear h h'
    go_enter Try.func30, Try.ntmps30
    go_wp2_with fail
    go_loopw [5] (fun i wr => ∃ (j d : Nat), j ≤ n ∧ i = .int .i64 j ∧ wr = w.drewN d ∧ xs.take j = ys.take j) (fun i _ => n - (intOf i).toNat)
    case atStart => exact ⟨0, 0, by omega, rfl, rfl, by simp⟩
    case round =>
      obtain ⟨j, d, hj, rfl, rfl, ht⟩ := hrel
      have HT := Lib.hid ht
      clear ht
      by_cases hlt : j < n
      · obtain ⟨u, hu⟩ : ∃ u, xs[j]? = some u := ⟨_, List.getElem?_eq_getElem (by rw [HL.out.1]; exact hlt)⟩
        obtain ⟨v, hv⟩ : ∃ v, ys[j]? = some v := ⟨_, List.getElem?_eq_getElem (by rw [HL.out.2]; exact hlt)⟩
        obtain ⟨x, rfl, hxb, x0, x1, x2, x3, x4, x5⟩ := InOp.op H.out (i := j) (by rw [HL.out.1]; exact hlt)
        obtain ⟨y, rfl, hyb, y0, y1, y2, y3, y4, y5⟩ := InOp.op H'.out (i := j) (by rw [HL.out.2]; exact hlt)
        rw [List.getD_eq_getElem?_getD, hu] at x0 x1 x2 x3 x4 x5
        rw [List.getD_eq_getElem?_getD, hv] at y0 y1 y2 y3 y4 y5
        simp only [Option.getD_some] at x0 x1 x2 x3 x4 x5 y0 y1 y2 y3 y4 y5
        clear hxb hyb
        have HU := Lib.hid hu
        have HV := Lib.hid hv
        have hq := fun (W : World) => op_ne u v W
        clear hu hv
        by_cases he : u = v
        · rw [decide_eq_true he] at hq
          have HE := Lib.hid he
          clear he
          go_wp2_with fail
          go_quiet (fail)
          go_wp2_with fail
          go_roundw
          case rel => exact ⟨j + 1, _, by omega, by go_num, rfl, otake_more HU.out (by rw [HE.out]; exact HV.out) HT.out⟩
          case measure => simp [intOf]; omega
        · rw [decide_eq_false he] at hq
          have HE := Lib.hid he
          clear he
          go_wp2_with fail
          go_quiet (fail)
          go_wp2
          go_ret
          refine ⟨congrArg (fun b => Ending.returned (Value.bool b)) (decide_eq_false (fun e => ?_)).symm, _, World.drewN_drewN _ _ _⟩
          have h1 := HU.out
          rw [e, HV.out] at h1
          exact HE.out (Option.some.inj h1).symm
      · obtain rfl : j = n := by omega
        have ht := HT.out
        rw [List.take_of_length_le (by rw [HL.out.1]; exact Nat.le_refl _), List.take_of_length_le (by rw [HL.out.2]; exact Nat.le_refl _)] at ht
        have HT2 := Lib.hid ht
        clear ht
        go_wp2
        go_ret
        exact ⟨congrArg (fun b => Ending.returned (Value.bool b)) (decide_eq_true HT2.out).symm, _, rfl⟩
  · have hd : ((n : Int) == (m : Int)) = false := by simp; omega
    have hne : xs ≠ ys := by
      intro e
      apply hnm
      rw [← HL.out.1, ← HL.out.2, e]
    have HNE := Lib.hid hne
    clear h h' hne
    go_enter Try.func30, Try.ntmps30
    go_wp2
    go_ret
    exact ⟨congrArg (fun b => Ending.returned (Value.bool b)) (decide_eq_false HNE.out).symm, 0, rfl⟩
end Go.Proofs.Ytllllbepnnpeeaa

namespace Go.Proofs.Ytllllbepnnpeeaa
open Go Go.RowKit Go.Shelf
set_option linter.unusedSimpArgs false
set_option linter.unusedVariables false

/-- Rows that a literal makes. -/
theorem inG_made (w : World) (t : TypeId) (k : Nat) (R : List (List Value)) (hR : RowsK k R) (h : R.length ≤ 1000) : InG (w.alloc (.cells R.flatten.toArray t)) k (some ⟨w.heap.size, 0, none⟩) R := by
  refine ⟨by unfold maxLen; omega, hR, fun i hi => ⟨_, rfl, by simp, fun j hj => ?_⟩⟩
  have e : (⟨w.heap.size, 0, none⟩ : Addr).add (i * k + j) = ⟨w.heap.size, i * k + j, none⟩ := by
    unfold Addr.add
    split
    · rename_i h0
      rw [h0]
    · simp
  rw [e, (Blk.made w t _).at_, List.getElem?_toArray, hR.get hi hj]
/-- A plan in memory is one that Play takes. -/
theorem PO.inPl {w0 w : World} {ob K c : Nat} {P : List (List ActR)} {V : List Value} (h : PO w0 w ob K P V) (hk : PlnOk c P) (hc : c ≤ 900000) : InPl w (some ⟨ob, 0, none⟩) P := by
  intro i hi
  have hiK : i < K := by rw [← h.lp]; exact hi
  obtain ⟨a, vc, e, _, hin⟩ := (h.own i hiK).inG
  refine ⟨⟨ob, 0, none⟩, a, vc, rfl, h.blk.lt, ?_, hin, ?_⟩
  · have e2 : (⟨ob, 0, none⟩ : Addr).add i = ⟨ob, i, none⟩ := by unfold Addr.add; split <;> simp_all
    rw [e2, h.cell hiK, e, List.length_map]
  · have := hk.le (s := i) hi
    omega
theorem ints_nil (w : World) : InInts w none 0 [] := ⟨rfl, by simp, fun i hi => absurd hi (by omega)⟩
/-- Play of the plan of awake. -/
theorem aw_play (w : World) (bA bB bC : Nat) (hA : Blk w bA 78 #[.int .i64 0, .int .i64 5, .int .i64 1, .int .i64 0]) (hB : Blk w bB 78 #[.int .i64 2, .int .i64 0]) (hC : Blk w bC 38 #[.slice (some ⟨bA, 0, none⟩) 2 2, .slice (some ⟨bB, 0, none⟩) 1 1]) :
    Calls Try.prog 14 #[.int .i64 1, .slice (some ⟨bC, 0, none⟩) 2 2, .slice none 0 0] w fun e w' => ∃ a c, e = .returned (.slice a 3 c) ∧ InOp w' a awO ∧ Below w.heap.size w w' := by
  have hpl : InPl w (some ⟨bC, 0, none⟩) awP := by
    intro i hi
    have e2 : ∀ (b i : Nat), (⟨b, 0, none⟩ : Addr).add i = ⟨b, i, none⟩ := fun b i => by unfold Addr.add; split <;> simp_all
    match i, hi with
    | 0, _ =>
      refine ⟨_, some ⟨bA, 0, none⟩, 2, rfl, hC.lt, ?_, ⟨by unfold maxLen; decide, rows_act _, fun i hi => ⟨_, rfl, hA.lt, fun j hj => ?_⟩⟩, by decide⟩
      · rw [e2, hC.at_]; rfl
      · rw [e2, hA.at_]
        match i, hi, j, hj with
        | 0, _, 0, _ => rfl
        | 0, _, 1, _ => rfl
        | 1, _, 0, _ => rfl
        | 1, _, 1, _ => rfl
    | 1, _ =>
      refine ⟨_, some ⟨bB, 0, none⟩, 1, rfl, hC.lt, ?_, ⟨by unfold maxLen; decide, rows_act _, fun i hi => ⟨_, rfl, hB.lt, fun j hj => ?_⟩⟩, by decide⟩
      · rw [e2, hC.at_]; rfl
      · rw [e2, hB.at_]
        match i, hi, j, hj with
        | 0, _, 0, _ => rfl
        | 0, _, 1, _ => rfl
  have hs : sizeS (2 + (1 : Nat)) = 3 := rfl
  have hin : PlyIn w (some ⟨bC, 0, none⟩) none 2 0 awP [] (sizeS (2 + (1 : Nat))) := by
    rw [hs]
    exact ⟨hpl, rfl, by omega, ints_nil w, by omega, aw_in, fun i hi => absurd hi (by omega), by rw [aw_todo.1]; omega, by rw [aw_todo.2]; omega⟩
  refine (play_any (C := 1) (z := 1) (c := 2) (d := 0) hin (by decide)).mono ?_
  rintro e w' ⟨v, r, rfl, hown, hp, hb⟩
  rw [hs] at hp
  obtain rfl := aw_plays hp
  obtain ⟨a, c, hv, _, hi⟩ := hown.inG
  exact ⟨a, c, congrArg Ending.returned hv, hi, hb⟩
theorem aw_linG : LinG 1 awO := ⟨by decide, by decide +kernel, aw_lin⟩
theorem aw_notG : ¬ LinG 1 awE := fun h => aw_not h.2.2

set_option maxRecDepth 100000 in
set_option maxHeartbeats 16000000 in
theorem awake11_any (w : World) :
    Calls Try.prog 10 #[] w fun e w' => e = .returned (.bool true) ∧ Below w.heap.size w w' := by
  go_enter Try.func10, Try.ntmps10
  have hA3 : Blk (((w.alloc (.cells #[.int .i64 0, .int .i64 5, .int .i64 1, .int .i64 0] 78)).alloc (.cells #[.int .i64 2, .int .i64 0] 78)).alloc (.cells #[.slice (some ⟨w.heap.size, 0, none⟩) 2 2, .slice (some ⟨w.heap.size + 1, 0, none⟩) 1 1] 38)) w.heap.size 78 #[.int .i64 0, .int .i64 5, .int .i64 1, .int .i64 0] := ((Blk.made w _ _).alloc _).alloc _
  have hB3 : Blk (((w.alloc (.cells #[.int .i64 0, .int .i64 5, .int .i64 1, .int .i64 0] 78)).alloc (.cells #[.int .i64 2, .int .i64 0] 78)).alloc (.cells #[.slice (some ⟨w.heap.size, 0, none⟩) 2 2, .slice (some ⟨w.heap.size + 1, 0, none⟩) 1 1] 38)) (w.heap.size + 1) 78 #[.int .i64 2, .int .i64 0] := by
    have := (Blk.made (w.alloc (.cells #[.int .i64 0, .int .i64 5, .int .i64 1, .int .i64 0] 78)) 78 #[.int .i64 2, .int .i64 0]).alloc (.cells #[.slice (some ⟨w.heap.size, 0, none⟩) 2 2, .slice (some ⟨w.heap.size + 1, 0, none⟩) 1 1] 38)
    simpa using this
  have hC3 : Blk (((w.alloc (.cells #[.int .i64 0, .int .i64 5, .int .i64 1, .int .i64 0] 78)).alloc (.cells #[.int .i64 2, .int .i64 0] 78)).alloc (.cells #[.slice (some ⟨w.heap.size, 0, none⟩) 2 2, .slice (some ⟨w.heap.size + 1, 0, none⟩) 1 1] 38)) (w.heap.size + 1 + 1) 38 #[.slice (some ⟨w.heap.size, 0, none⟩) 2 2, .slice (some ⟨w.heap.size + 1, 0, none⟩) 1 1] := by
    have := Blk.made ((w.alloc (.cells #[.int .i64 0, .int .i64 5, .int .i64 1, .int .i64 0] 78)).alloc (.cells #[.int .i64 2, .int .i64 0] 78)) 38 #[.slice (some ⟨w.heap.size, 0, none⟩) 2 2, .slice (some ⟨w.heap.size + 1, 0, none⟩) 1 1]
    simpa using this
  have B3 := Lib.hid (((below_one w (.cells #[.int .i64 0, .int .i64 5, .int .i64 1, .int .i64 0] 78)).alloc (by simp) (.cells #[.int .i64 2, .int .i64 0] 78)).alloc (by simp; omega) (.cells #[.slice (some ⟨w.heap.size, 0, none⟩) 2 2, .slice (some ⟨w.heap.size + 1, 0, none⟩) 1 1] 38))
  have HP := Lib.hid (aw_play _ _ _ _ hA3 hB3 hC3)
  clear hA3 hB3 hC3
  go_wp2_with fail
  (with_reducible refine HP.out.mono ?_)
  rintro e w4 ⟨a, c, rfl, hin, hb⟩
  have B4 := Lib.hid (B3.out.trans (hb.mono B3.out.size))
  have I4 := Lib.hid hin
  clear hin hb HP B3
  have hW := inG_made w4 28 6 (awO.map opL) (rows_op _) (by decide)
  have B5 := Lib.hid (B4.out.alloc B4.out.size (.cells #[.int .i64 0, .int .i64 0, .int .i64 0, .int .i64 3, .int .i64 0, .int .i64 5, .int .i64 1, .int .i64 0, .int .i64 4, .int .i64 10, .int .i64 1, .int .i64 5, .int .i64 2, .int .i64 1, .int .i64 11, .int .i64 12, .int .i64 2, .int .i64 0] 28))
  have W5 := Lib.hid (show InOp (w4.alloc (.cells #[.int .i64 0, .int .i64 0, .int .i64 0, .int .i64 3, .int .i64 0, .int .i64 5, .int .i64 1, .int .i64 0, .int .i64 4, .int .i64 10, .int .i64 1, .int .i64 5, .int .i64 2, .int .i64 1, .int .i64 11, .int .i64 12, .int .i64 2, .int .i64 0] 28)) (some ⟨w4.heap.size, 0, none⟩) awO from hW)
  have I5 := Lib.hid (I4.out.below (below_one w4 (.cells #[.int .i64 0, .int .i64 0, .int .i64 0, .int .i64 3, .int .i64 0, .int .i64 5, .int .i64 1, .int .i64 0, .int .i64 4, .int .i64 10, .int .i64 1, .int .i64 5, .int .i64 2, .int .i64 1, .int .i64 11, .int .i64 12, .int .i64 2, .int .i64 0] 28)))
  clear hW I4 B4
  go_upto_region 3 with fail
  generalize w4.alloc (.cells #[.int .i64 0, .int .i64 0, .int .i64 0, .int .i64 3, .int .i64 0, .int .i64 5, .int .i64 1, .int .i64 0, .int .i64 4, .int .i64 10, .int .i64 1, .int .i64 5, .int .i64 2, .int .i64 1, .int .i64 11, .int .i64 12, .int .i64 2, .int .i64 0] 28) = V5 at *
  generalize w4.heap.size = g5 at *
  have hE := inG_made V5 28 6 (awE.map opL) (rows_op _) (by decide)
  have B6 := Lib.hid (B5.out.alloc B5.out.size (.cells #[.int .i64 1, .int .i64 0, .int .i64 0, .int .i64 1, .int .i64 1, .int .i64 5, .int .i64 0, .int .i64 0, .int .i64 2, .int .i64 5, .int .i64 0, .int .i64 5] 28))
  have W6 := Lib.hid (W5.out.below (below_one V5 (.cells #[.int .i64 1, .int .i64 0, .int .i64 0, .int .i64 1, .int .i64 1, .int .i64 5, .int .i64 0, .int .i64 0, .int .i64 2, .int .i64 5, .int .i64 0, .int .i64 5] 28)))
  have I6 := Lib.hid (I5.out.below (below_one V5 (.cells #[.int .i64 1, .int .i64 0, .int .i64 0, .int .i64 1, .int .i64 1, .int .i64 5, .int .i64 0, .int .i64 0, .int .i64 2, .int .i64 5, .int .i64 0, .int .i64 5] 28)))
  have E6 := Lib.hid (show InOp (V5.alloc (.cells #[.int .i64 1, .int .i64 0, .int .i64 0, .int .i64 1, .int .i64 1, .int .i64 5, .int .i64 0, .int .i64 0, .int .i64 2, .int .i64 5, .int .i64 0, .int .i64 5] 28)) (some ⟨V5.heap.size, 0, none⟩) awE from hE)
  clear hE W5 I5 B5
  go_upto_region 4 with fail
  generalize V5.alloc (.cells #[.int .i64 1, .int .i64 0, .int .i64 0, .int .i64 1, .int .i64 1, .int .i64 5, .int .i64 0, .int .i64 0, .int .i64 2, .int .i64 5, .int .i64 0, .int .i64 5] 28) = V6 at *
  generalize V5.heap.size = g6 at *
  have HS := Lib.hid (show Calls Try.prog 30 #[.slice a 3 c, .slice (some ⟨g5, 0, none⟩) 3 3] V6 (fun e w' => e = .returned (.bool true) ∧ ∃ d, w' = V6.drewN d) from (opsame_any I6.out W6.out c 3).mono (fun e w' h => ⟨h.1.trans (congrArg (fun b => Ending.returned (Value.bool b)) (decide_eq_true rfl)), h.2⟩))
  go_wp2_with fail
  (with_reducible refine HS.out.mono ?_)
  rintro e w7 ⟨rfl, nd, rfl⟩
  have B7 := Lib.hid (B6.out.trans ((below_drewN V6 nd).mono B6.out.size))
  have I7 := Lib.hid (I6.out.below (below_drewN V6 nd))
  have E7 := Lib.hid (E6.out.below (below_drewN V6 nd))
  clear HS B6 I6 E6 W6
  generalize V6.drewN nd = V7 at *
  have HL := Lib.hid (show Calls Try.prog 11 #[.slice a 3 c, .int .i64 1] V7 (LinD 1 awO V7) from linear_any 1 I7.out rfl (by decide +kernel))
  go_wp2_with fail
  (with_reducible refine HL.out.mono ?_)
  rintro e w8 ⟨b, rfl, hbi, hb8⟩
  obtain rfl : b = true := hbi.2 aw_linG
  have B8 := Lib.hid (B7.out.trans (hb8.mono B7.out.size))
  have E8 := Lib.hid (E7.out.below hb8)
  clear hbi hb8 HL B7 I7 E7
  have HL := Lib.hid (show Calls Try.prog 11 #[.slice (some ⟨g6, 0, none⟩) 2 2, .int .i64 1] w8 (LinD 1 awE w8) from linear_any 1 E8.out rfl (by decide +kernel))
  go_wp2_with fail
  (with_reducible refine HL.out.mono ?_)
  rintro e w9 ⟨b, rfl, hbi, hb9⟩
  obtain rfl : b = false := by
    cases b with
    | false => rfl
    | true => exact absurd (hbi.1 rfl) aw_notG
  have B9 := Lib.hid (B8.out.trans (hb9.mono B8.out.size))
  clear hbi hb9 HL B8 E8
  go_wp2
  go_ret
  exact ⟨rfl, B9.out⟩
end Go.Proofs.Ytllllbepnnpeeaa

namespace Go.Proofs.Ytllllbepnnpeeaa
open Go Go.RowKit
set_option linter.unusedSimpArgs false

theorem short1_any {w : World} {g : Nat} {a : Option Addr} {n c : Nat} (h : Blk w g 24 #[.slice a n c]) (hn : n ≤ 9223372036854775807) :
    Calls Try.prog 13 #[.slice none 0 0, .slice (some ⟨g, 0, none⟩) 1 1] w fun e w' => e = .returned (.bool (decide ((n : Int) ≤ 400))) ∧ w = w' := by
  have c0 : w.cell? ⟨g, 0, none⟩ = some (.slice a n c) := h.at_ 0
  clear h
  by_cases hb : n ≤ 400
  · have hd : decide (400 < (n : Int)) = false := decide_eq_false (by omega)
    rw [decide_eq_true (by omega : (n : Int) ≤ 400)]
    go_enter Try.func13, Try.ntmps13
    go_wp2_with fail
    go_loopw [5] (fun i wr => ∃ j : Nat, j ≤ 1 ∧ i = .int .i64 j ∧ wr = w) (fun i _ => 1 - (intOf i).toNat)
    case atStart => exact ⟨0, by omega, rfl, rfl⟩
    case round =>
      obtain ⟨j, hj, rfl, rfl⟩ := hrel
      rcases (show j = 0 ∨ j = 1 by omega) with rfl | rfl
      · go_wp2_with fail
        go_roundw
        case rel => exact ⟨1, by omega, by go_num, by first | trivial | rfl⟩
        case measure => simp [intOf]
      · go_wp2
        go_ret
        exact ⟨rfl, rfl⟩
  · have hd : decide (400 < (n : Int)) = true := decide_eq_true (by omega)
    rw [decide_eq_false (by omega : ¬ (n : Int) ≤ 400)]
    go_enter Try.func13, Try.ntmps13
    go_wp2_with fail
    go_loopw [5] (fun i wr => i = .int .i64 0 ∧ wr = w) (fun i _ => 1 - (intOf i).toNat)
    case atStart => exact ⟨rfl, rfl⟩
    case round =>
      obtain ⟨rfl, rfl⟩ := hrel
      go_wp2
      go_ret
      exact ⟨rfl, rfl⟩
theorem short2_any {w : World} {g : Nat} {a b : Option Addr} {n c n' c' : Nat} (h : Blk w g 24 #[.slice a n c, .slice b n' c']) (hn : n ≤ 9223372036854775807) (hn' : n' ≤ 9223372036854775807) :
    Calls Try.prog 13 #[.slice none 0 0, .slice (some ⟨g, 0, none⟩) 2 2] w fun e w' => e = .returned (.bool (decide ((n : Int) ≤ 400) && decide ((n' : Int) ≤ 400))) ∧ w = w' := by
  have c0 : w.cell? ⟨g, 0, none⟩ = some (.slice a n c) := h.at_ 0
  have c1 : w.cell? ⟨g, 1, none⟩ = some (.slice b n' c') := h.at_ 1
  clear h
  by_cases hb : n ≤ 400
  case neg =>
    have hd : decide (400 < (n : Int)) = true := decide_eq_true (by omega)
    rw [decide_eq_false (by omega : ¬ (n : Int) ≤ 400), Bool.false_and]
    go_enter Try.func13, Try.ntmps13
    go_wp2_with fail
    go_loopw [5] (fun i wr => i = .int .i64 0 ∧ wr = w) (fun i _ => 1 - (intOf i).toNat)
    case atStart => exact ⟨rfl, rfl⟩
    case round =>
      obtain ⟨rfl, rfl⟩ := hrel
      go_wp2
      go_ret
      exact ⟨rfl, rfl⟩
  have hd : decide (400 < (n : Int)) = false := decide_eq_false (by omega)
  rw [decide_eq_true (by omega : (n : Int) ≤ 400), Bool.true_and]
  by_cases hb' : n' ≤ 400
  · have hd' : decide (400 < (n' : Int)) = false := decide_eq_false (by omega)
    rw [decide_eq_true (by omega : (n' : Int) ≤ 400)]
    go_enter Try.func13, Try.ntmps13
    go_wp2_with fail
    go_loopw [5] (fun i wr => ∃ j : Nat, j ≤ 2 ∧ i = .int .i64 j ∧ wr = w) (fun i _ => 2 - (intOf i).toNat)
    case atStart => exact ⟨0, by omega, rfl, rfl⟩
    case round =>
      obtain ⟨j, hj, rfl, rfl⟩ := hrel
      rcases (show j = 0 ∨ j = 1 ∨ j = 2 by omega) with rfl | rfl | rfl
      · go_wp2_with fail
        go_roundw
        case rel => exact ⟨1, by omega, by go_num, by first | trivial | rfl⟩
        case measure => simp [intOf]
      · go_wp2_with fail
        go_roundw
        case rel => exact ⟨2, by omega, by go_num, by first | trivial | rfl⟩
        case measure => simp [intOf]
      · go_wp2
        go_ret
        exact ⟨rfl, rfl⟩
  · have hd' : decide (400 < (n' : Int)) = true := decide_eq_true (by omega)
    rw [decide_eq_false (by omega : ¬ (n' : Int) ≤ 400)]
    go_enter Try.func13, Try.ntmps13
    go_wp2_with fail
    go_loopw [5] (fun i wr => ∃ j : Nat, j ≤ 1 ∧ i = .int .i64 j ∧ wr = w) (fun i _ => 1 - (intOf i).toNat)
    case atStart => exact ⟨0, by omega, rfl, rfl⟩
    case round =>
      obtain ⟨j, hj, rfl, rfl⟩ := hrel
      rcases (show j = 0 ∨ j = 1 by omega) with rfl | rfl
      · go_wp2_with fail
        go_roundw
        case rel => exact ⟨1, by omega, by go_num, by first | trivial | rfl⟩
        case measure => simp [intOf]
      · go_wp2
        go_ret
        exact ⟨rfl, rfl⟩
end Go.Proofs.Ytllllbepnnpeeaa

namespace Go.Proofs.Ytllllbepnnpeeaa
open Go Go.RowKit

theorem ints_lone (w : World) (z : Int) : InInts (w.alloc (.cells #[.int .i64 z] 3)) (some ⟨w.heap.size, 0, none⟩) 1 [z] := by
  have hB := Blk.made w 3 #[.int .i64 z]
  refine ⟨rfl, by unfold maxLen; omega, fun i hi => ⟨_, rfl, hB.lt, ?_⟩⟩
  obtain rfl : i = 0 := by omega
  have e : (⟨w.heap.size, 0, none⟩ : Addr).add 0 = ⟨w.heap.size, 0, none⟩ := by unfold Addr.add; rfl
  rw [e, hB.at_]
  rfl
theorem keepnum0 {w : World} {a : Option Addr} {L : Nat} {zs : List Int} (h : InInts w a L zs) (c : Nat) (n : Int) (hn : 1 ≤ n) (hn' : n ≤ 1000000) :
    Calls Try.prog 9 #[.slice a L c, .int .i64 0, .int .i64 n] w (NumR n w) := keepnum_any h c 0 (by omega) n hn hn'
end Go.Proofs.Ytllllbepnnpeeaa

namespace Go.Proofs.Ytllllbepnnpeeaa
open Go Go.RowKit Go.Shelf
set_option linter.unusedSimpArgs false
set_option linter.unusedVariables false

theorem sizeS_nat (C : Nat) (h : C ≤ 100) : sizeS (2 + (C : Int)) = C + 2 := by
  unfold sizeS
  rw [if_neg (by omega), if_pos (by omega)]
  omega
theorem old_new (n : Nat) (i : Int) : (St.new n).old i = 0 := by
  unfold St.old
  split
  · show (List.replicate n (0 : Int)).getD _ 0 = 0
    rw [List.getD_eq_getElem?_getD, List.getElem?_replicate]
    split <;> rfl
  · rfl
theorem cl_new (C : Nat) (h1 : 1 ≤ C) (h2 : C ≤ 100) : CL (St.new (sizeS (2 + (C : Int)))) C 0 0 [] := by
  refine ⟨⟨h1, h2⟩, ?_, old_new _ _, by simp, ⟨by omega, by show 0 + 0 < 0 + 1000000; omega, by omega⟩, fun i hi => absurd hi (by simp)⟩
  rw [sizeS_nat C h2]
  simp [St.new]
/-- What holds of the operations of a game. -/
structure GameG (C cnt : Nat) (r : List OpR) : Prop where
  lin : LinP C r
  wf : ∀ o, o ∈ r → WfO o
  ab : ∀ o, o ∈ r → o.c = 4 → o.k = 2 ∧ Rival r o
  ct : ∀ v, r.countP (isOut v) ≤ r.countP (isIn v)
  len : r.length = cnt
  fit : ∀ o, o ∈ r → FitO 190000 o
theorem game_good {C cnt : Nat} {P : List (List ActR)} {picks : List Int} {r : List OpR} (h : Plays (St.new (sizeS (2 + (C : Int)))) C P picks r) (hk : PlnOk cnt P) (hK : 2 ≤ P.length) (h1 : 1 ≤ C) (h2 : C ≤ 100) (hp : picks.length ≤ 400) (hc : cnt ≤ 100) : GameG C cnt r := by
  obtain ⟨k1, k2, k3, _⟩ := hk.first (St.new (sizeS (2 + (C : Int))))
  have hg := plays_good h (by intro e; rw [e] at hK; simp at hK) k1 (cl_new C h1 h2) (old_new _ _) (by omega)
  rw [k3] at hg
  exact ⟨hg.1, hg.2.1, hg.2.2.1, hg.2.2.2.1, hg.2.2.2.2, plays_fit h k1 (by omega)⟩
/-- What Play gives for a plan of a law. -/
def GamD (C cnt : Nat) (w : World) (e : Ending) (w' : World) : Prop := ∃ (r : List OpR) (a : Option Addr) (c : Nat), e = .returned (.slice a cnt c) ∧ InOp w' a r ∧ GameG C cnt r ∧ Below w.heap.size w w'
theorem game_any {w0 w : World} {ob K cnt C M d : Nat} {z : Int} {b : Option Addr} {P : List (List ActR)} {V : List Value} {picks : List Int} (h : PO w0 w ob K P V) (hk : PlnOk cnt P) (hK : 2 ≤ K ∧ K ≤ 4) (hc : cnt ≤ 100) (hz : z = (C : Int)) (h1 : 1 ≤ C) (h2 : C ≤ 64) (hp : InInts w b M picks) (hM : M ≤ 400)
    (hr : ∀ i, i < M → -9223372036854775808 ≤ picks.getD i 0 ∧ picks.getD i 0 ≤ 9223372036854775807) :
    Calls Try.prog 14 #[.int .i64 z, .slice (some ⟨ob, 0, none⟩) K K, .slice b M d] w (GamD C cnt w) := by
  obtain ⟨k1, k2, k3, _⟩ := hk.first (St.new (sizeS (2 + (C : Int))))
  have hin : PlyIn w (some ⟨ob, 0, none⟩) b K M P picks (sizeS (2 + (C : Int))) := ⟨h.inPl hk (by omega), h.lp, by omega, hp, by omega, k1, hr, by rw [k2]; omega, by rw [k3]; omega⟩
  refine (play_any (C := C) (z := z) (c := K) (d := d) hin (by omega)).mono ?_
  rintro e w' ⟨v, r, rfl, hown, hpl, hb⟩
  have hg := game_good hpl hk (by rw [h.lp]; exact hK.1) h1 (by omega) (by rw [hp.1]; exact hM) hc
  obtain ⟨a, c, hv, _, hi⟩ := hown.inG
  rw [List.length_map, hg.len] at hv
  exact ⟨r, a, c, congrArg Ending.returned hv, hi, hg, hb⟩
end Go.Proofs.Ytllllbepnnpeeaa

namespace Go.Proofs.Ytllllbepnnpeeaa
open Go Go.RowKit Go.Shelf
set_option linter.unusedSimpArgs false
set_option linter.unusedVariables false

set_option maxRecDepth 100000 in
set_option maxHeartbeats 16000000 in
theorem linable_law {w : World} {ra pa : Option Addr} {rn pn : Nat} {rz pz : List Int} (rc pc : Nat) (ca : Int) (hr : InInts w ra rn rz ∧ ∀ x, x ∈ rz → -9223372036854775808 ≤ x ∧ x ≤ 9223372036854775807) (hp : InInts w pa pn pz ∧ ∀ x, x ∈ pz → -9223372036854775808 ≤ x ∧ x ≤ 9223372036854775807) :
    Calls Try.prog 4 #[.int .i64 ca, .slice ra rn rc, .slice pa pn pc] w fun e w' => e = .returned (.bool true) ∧ Below w.heap.size w w' := by
  have hmr := hr.1.2.1
  have hmp := hp.1.2.1
  unfold maxLen at hmr hmp
  have HR := Lib.hid hr
  have HPK := Lib.hid hp
  clear hr hp
  obtain ⟨sb, hsb⟩ : ∃ sb, (decide ((rn : Int) ≤ 400) && decide ((pn : Int) ≤ 400)) = sb := ⟨_, rfl⟩
  have HSB := Lib.hid hsb
  clear hsb
  have hX := Blk.made w 24 #[.slice ra rn rc, .slice pa pn pc]
  have HS := Lib.hid (short2_any hX (by omega) (by omega))
  rw [HSB.out] at HS
  have B1 := Lib.hid (below_one w (.cells #[.slice ra rn rc, .slice pa pn pc] 24))
  clear hX
  go_enter Try.func4, Try.ntmps4
  go_wp2_with fail
  (with_reducible refine HS.out.mono ?_)
  rintro e w1 ⟨rfl, rfl⟩
  generalize w.alloc (.cells #[.slice ra rn rc, .slice pa pn pc] 24) = W1 at *
  clear HS
  cases sb with
  | false =>
    go_wp2
    go_ret
    exact ⟨rfl, B1.out⟩
  | true =>
  have HLN := Lib.hid (show rn ≤ 400 ∧ pn ≤ 400 by
    have := HSB.out
    simp only [Bool.and_eq_true, decide_eq_true_eq] at this
    omega)
  clear HSB
  go_wp2_with fail
  have I0 := Lib.hid (ints_lone W1 ca)
  have hb0 := below_one W1 (.cells #[.int .i64 ca] 3)
  (with_reducible refine (keepnum0 I0.out 1 4 (by omega) (by omega)).mono ?_)
  rintro e u0 ⟨y, hy, rfl, nd0, rfl⟩
  have B2 := Lib.hid (B1.out.trans ((hb0.trans ((below_drewN (W1.alloc (.cells #[.int .i64 ca] 3)) nd0).mono hb0.size)).mono B1.out.size))
  clear I0 hb0 B1
  generalize (W1.alloc (.cells #[.int .i64 ca] 3)).drewN nd0 = W2 at *
  obtain ⟨C, hC⟩ : ∃ C, 1 + y = C := ⟨_, rfl⟩
  have hCy : (1 : Int) + (y : Int) = (C : Int) := by omega
  have hCb : 1 ≤ C ∧ C ≤ 8 := by omega
  have HCB := Lib.hid hCb
  clear hC hCb
  have hpl0 := plan_any (n := 10) (c := rc) (HR.out.1.below B2.out) HLN.out.1 (by omega)
  rw [show ((10 : Nat) : Int) = 10 from rfl] at hpl0
  have HPL := Lib.hid hpl0
  clear hpl0
  go_wp2_with fail
  (with_reducible refine HPL.out.mono ?_)
  rintro e w3 ⟨ob, K, P, V, cnt, rfl, hpo, hok, hK1, hK2, hcnt⟩
  have B3 := Lib.hid (B2.out.trans (hpo.b.mono B2.out.size))
  have PO3 := Lib.hid hpo
  have PK := Lib.hid (And.intro hok (And.intro (And.intro hK1 hK2) hcnt))
  clear hpo hok hK1 hK2 hcnt HPL
  have hpr : ∀ i, i < pn → -9223372036854775808 ≤ pz.getD i 0 ∧ pz.getD i 0 ≤ 9223372036854775807 := fun i hi => by
    have hl := HPK.out.1.1
    rw [List.getD_eq_getElem?_getD, List.getElem?_eq_getElem (by omega)]
    exact HPK.out.2 _ (List.getElem_mem _)
  have HG := Lib.hid (fun d => game_any (C := C) (z := (C : Int)) (d := d) PO3.out PK.out.1 PK.out.2.1 (by have := PK.out.2.2; omega) rfl HCB.out.1 (by have := HCB.out.2; omega) ((HPK.out.1.below B2.out).below PO3.out.b) HLN.out.2 hpr)
  clear hpr
  go_wp2_with fail
  (with_reducible refine (HG.out _).mono ?_)
  rintro e w4 ⟨r, a, c, rfl, hin, hg, hb4⟩
  have B4 := Lib.hid (B3.out.trans (hb4.mono B3.out.size))
  have IN4 := Lib.hid hin
  have GG := Lib.hid hg
  clear hin hg HG
  clear PO3 hb4 B3
  go_wp2_with fail
  (with_reducible refine (awake11_any _).mono ?_)
  rintro e w5 ⟨rfl, hb5⟩
  have B5 := Lib.hid (B4.out.trans (hb5.mono B4.out.size))
  have IN5 := Lib.hid (IN4.out.below hb5)
  clear hb5 B4 IN4
  have hc10 : (cnt : Int) ≤ 10 := by have := PK.out.2.2; omega
  have HL := Lib.hid (linear_any (C : Int) (c := c) IN5.out GG.out.len (fit_lin GG.out.fit))
  go_wp2_with fail
  (with_reducible refine HL.out.mono ?_)
  rintro e w6 ⟨b, rfl, hbi, hb6⟩
  obtain rfl : b = true := hbi.2 ⟨by rw [GG.out.len]; have := PK.out.2.2; omega, GG.out.wf, GG.out.lin⟩
  have B6 := Lib.hid (B5.out.trans (hb6.mono B5.out.size))
  clear hbi hb6
  go_wp2
  go_ret
  exact ⟨rfl, B6.out⟩
end Go.Proofs.Ytllllbepnnpeeaa

namespace Go.Proofs.Ytllllbepnnpeeaa
open Go Go.ChangeShapes Go.WideShapes Go.ChangeAt Go.RowKit

set_option maxRecDepth 100000 in
theorem open_wordsW {H : Type} {enc : TypeId × Value → H} {w : World} {base b0 : Nat} {spare : Nat → Bool} {held : Bool} {r : Reach} {v : Value} {d : DataW H} {p : List MemPlace}
    (hv : Value.okWide Try.prog w r b0 44 v) (h : DataW.Trod enc Try.prog w base spare held 44 v d p) :
    ∃ (a : Option Addr) (n c : Nat) (zs : List Int), v = .slice a n c ∧ (InW w a n zs ∧ ∀ x, x ∈ zs → 0 ≤ x) := by
  obtain ⟨a, n, c, rfl⟩ := okWide_slice Try.underlying44 hv
  obtain ⟨fuel, hf⟩ := h
  rcases open_ints Try.underlying44 Try.underlying39 (by kernel_rfl) hf with ⟨hcs, _⟩ | ⟨x, l, c', zs, hcs, _, hl, hm, hz, _, hcell, hwf⟩
  · simp [Value.cells] at hcs
    obtain ⟨rfl, rfl, rfl⟩ := hcs
    exact ⟨_, _, _, [], rfl, ⟨rfl, by simp, fun i hi => absurd hi (by omega)⟩, by simp⟩
  · simp [Value.cells] at hcs
    obtain ⟨rfl, rfl, rfl⟩ := hcs
    have hnz : n ≤ zs.length := by rw [hz]; split <;> omega
    refine ⟨_, _, _, zs.take n, rfl, ⟨by simp; omega, by omega, fun i hi => ⟨x, rfl, ?_, ?_⟩⟩, fun y hy => ?_⟩
    · have := World.block_lt_of_cell? w _ (hcell i (by omega))
      rwa [show (x.add i).block = x.block by unfold Addr.add; split <;> rfl] at this
    · rw [hcell i (by omega), List.getD_eq_getElem?_getD, List.getD_eq_getElem?_getD, List.getElem?_take, if_pos hi]
    · have := hwf y (List.mem_of_mem_take hy)
      simp only [Lit.wf, Bool.and_eq_true, decide_eq_true_eq] at this
      have h0 : IntKind.u64.min = 0 := rfl
      rw [h0] at this
      exact this.1

set_option maxRecDepth 100000 in
theorem open_intsR {H : Type} {enc : TypeId × Value → H} {w : World} {base b0 : Nat} {spare : Nat → Bool} {held : Bool} {r : Reach} {v : Value} {d : DataW H} {p : List MemPlace}
    (hv : Value.okWide Try.prog w r b0 24 v) (h : DataW.Trod enc Try.prog w base spare held 24 v d p) :
    ∃ (a : Option Addr) (n c : Nat) (zs : List Int), v = .slice a n c ∧ (InInts w a n zs ∧ ∀ x, x ∈ zs → -9223372036854775808 ≤ x ∧ x ≤ 9223372036854775807) := by
  obtain ⟨a, n, c, rfl⟩ := okWide_slice Try.underlying24 hv
  obtain ⟨fuel, hf⟩ := h
  rcases open_ints Try.underlying24 Try.underlying3 (by kernel_rfl) hf with ⟨hcs, _⟩ | ⟨x, l, c', zs, hcs, _, hl, hm, hz, _, hcell, hwf⟩
  · simp [Value.cells] at hcs
    obtain ⟨rfl, rfl, rfl⟩ := hcs
    exact ⟨_, _, _, [], rfl, ⟨rfl, by simp, fun i hi => absurd hi (by omega)⟩, by simp⟩
  · simp [Value.cells] at hcs
    obtain ⟨rfl, rfl, rfl⟩ := hcs
    have hnz : n ≤ zs.length := by rw [hz]; split <;> omega
    refine ⟨_, _, _, zs.take n, rfl, ⟨by simp; omega, by omega, fun i hi => ⟨x, rfl, ?_, ?_⟩⟩, fun y hy => ?_⟩
    · have := World.block_lt_of_cell? w _ (hcell i (by omega))
      rwa [show (x.add i).block = x.block by unfold Addr.add; split <;> rfl] at this
    · rw [hcell i (by omega), List.getD_eq_getElem?_getD, List.getD_eq_getElem?_getD, List.getElem?_take, if_pos hi]
    · exact i64_in (hwf y (List.mem_of_mem_take hy))
end Go.Proofs.Ytllllbepnnpeeaa
