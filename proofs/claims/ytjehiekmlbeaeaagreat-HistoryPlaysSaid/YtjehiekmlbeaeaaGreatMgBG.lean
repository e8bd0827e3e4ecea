/-
  An == between two structs of ints.
  The reference's Same: are two lists of operations equal?
  Stage 11: awake; what the laws lay out of a plan.
-/
import Derived.Test.YtjehiekmlbeaeaaGreatMgAA
import Derived.ChangeKeysEq
import Derived.Test.YtjehiekmlbeaeaaGreatMgAN
import Derived.LoopTactic
import Derived.Deep.QuietTactic
import Derived.BigQuiet
import Derived.Lib.Hide
import Derived.Test.YtjehiekmlbeaeaaGreatMgAZ
import Derived.Test.YtjehiekmlbeaeaaGreatMgBA
import Derived.Test.YtjehiekmlbeaeaaGreatMgAW
import Derived.Test.YtjehiekmlbeaeaaGreatPlnD
import Derived.Test.YtjehiekmlbeaeaaGreatMgBF
namespace Go.Proofs.YtjehiekmlbeaeaaGreat
open Go Go.RowKit

theorem qeq_int (k : Nat) (x y : Int) (u : World) : (Op.equalIn (k + 1) 3 (.int .i64 x) (.int .i64 y)).run Tryz.prog u = .ok (x == y) u := by
  simp [Op.equalIn, run_underlying Tryz.underlying3]
theorem eqFields_ints (k : Nat) (xs ys : List Int) (u : World) : ∀ (fs : List Field) (is : List Nat), fs.map (fun f => (f.name == "_", f.type, f.offset)) = is.map (fun i => (false, 3, i)) → (∀ i ∈ is, i < xs.length ∧ i < ys.length) →
    (Op.eqFields (k + 1) (xs.map (Value.int .i64)).toArray (ys.map (Value.int .i64)).toArray fs).run Tryz.prog u = .ok (is.all fun i => xs.getD i 0 == ys.getD i 0) u
  | [], [], _, _ => by simp [Op.eqFields]
  | [], _ :: _, h, _ => by simp at h
  | _ :: _, [], h, _ => by simp at h
  | f :: fs, i :: is, h, hl => by
    simp only [List.map_cons, List.cons.injEq, Prod.mk.injEq] at h
    obtain ⟨⟨hn, ht, ho⟩, hr⟩ := h
    have hp : Tryz.prog.plainKey 3 = true := by kernel_rfl
    obtain ⟨h1, h2⟩ := hl i (by simp)
    have ih := eqFields_ints k xs ys u fs is hr (fun j hj => hl j (by simp [hj]))
    have g : ∀ zs : List Int, i < zs.length → (zs.map (Value.int .i64)).toArray[f.offset]? = some (.int .i64 (zs.getD i 0)) := by
      intro zs hz
      rw [ho]
      simp [hz]
    have hnm : f.name ≠ "_" := by simpa using hn
    have p1 := run_part_plain (P := Tryz.prog) u hp (g xs h1)
    have p2 := run_part_plain (P := Tryz.prog) u hp (g ys h2)
    rw [← ht] at p1 p2
    have p3 := qeq_int k (xs.getD i 0) (ys.getD i 0) u
    rw [← ht] at p3
    simp only [Op.eqFields, hnm, ne_eq, not_false_eq_true, if_true, Sem.run_bind, p1, p2, p3, Result.andThen_ok, List.all_cons]
    cases hb : (xs.getD i 0 == ys.getD i 0) with
    | false => simp
    | true => simpa using ih
end Go.Proofs.YtjehiekmlbeaeaaGreat

namespace Go.Proofs.YtjehiekmlbeaeaaGreat
open Go Go.RowKit
set_option linter.unusedSimpArgs false

theorem op_eq (x y : OpR) (u : World) : (Op.equalIn 10000 80 (.agg (opC x)) (.agg (opC y))).run Tryz.prog u = .ok (decide (x = y)) u := by
  rw [show (10000 : Nat) = 9999 + 1 from rfl, run_equalIn_struct u 9999 80 _ _ (by kernel_rfl) (by kernel_rfl)]
  have h := eqFields_ints 9998 [x.k, x.m, x.a, x.b, x.c, x.v] [y.k, y.m, y.a, y.b, y.c, y.v] u (Tryz.prog.fieldsOf 80).toList [0, 1, 2, 3, 4, 5] (by kernel_rfl) (by simp)
  simp only [List.map_cons, List.map_nil] at h
  refine h.trans (congrArg (fun b => Result.ok b u) ?_)
  clear h
  rw [Bool.eq_iff_iff, decide_eq_true_iff]
  obtain ⟨x0, x1, x2, x3, x4, x5⟩ := x
  obtain ⟨y0, y1, y2, y3, y4, y5⟩ := y
  simp
theorem op_ne (x y : OpR) (u : World) : (binOp .neq 80 (.agg (opC x)) (.agg (opC y))).run Tryz.prog u = .ok (.bool (!decide (x = y))) u := by
  simp only [binOp, Op.equal, Op.maxDepth, Sem.run_bind, Sem.run_pure]
  rw [op_eq x y u]
  rfl

/-- What Same gives. -/
def SameO (xs ys : List OpR) (w : World) (e : Ending) (w' : World) : Prop := e = .returned (.bool (decide (xs = ys))) ∧ ∃ d, w' = w.drewN d

theorem otake_more {zs ys : List OpR} {j : Nat} {u : OpR} (h1 : zs[j]? = some u) (h2 : ys[j]? = some u) (ht : zs.take j = ys.take j) : zs.take (j + 1) = ys.take (j + 1) := by
  rw [List.take_add_one, List.take_add_one, ht, h1, h2]

set_option maxRecDepth 100000 in
set_option maxHeartbeats 2000000 in
theorem opsame_any {w : World} {a b : Option Addr} {xs ys : List OpR} (h : InOp w a xs) (h' : InOp w b ys) (c c' : Nat) :
    Calls Tryz.prog 27 #[.slice a xs.length c, .slice b ys.length c'] w (SameO xs ys w) := by
  have hmax := InOp.len h
  unfold maxLen at hmax
  obtain ⟨n, hn⟩ : ∃ n, xs.length = n := ⟨_, rfl⟩
  obtain ⟨m, hm⟩ : ∃ m, ys.length = m := ⟨_, rfl⟩
  rw [hn, hm]
  rw [hn] at hmax
  have HL := Lib.hid (And.intro hn hm)
  clear hn hm
  by_cases hnm : n = m
  · subst hnm
    have H := Lib.hid h
    have H' := Lib.hid h'
    clear h h'
    go_enter Tryz.func27, Tryz.ntmps27
    go_wp2_with fail
    go_loopw [5] (fun i wr => ∃ (j d : Nat), j ≤ n ∧ i = .int .i64 j ∧ wr = w.drewN d ∧ xs.take j = ys.take j) (fun i _ => n - (intOf i).toNat)
    case atStart => exact ⟨0, 0, by omega, rfl, rfl, by simp⟩
    case round =>
      obtain ⟨j, d, hj, rfl, rfl, ht⟩ := hrel
      have HT := Lib.hid ht
      clear ht
      by_cases hlt : j < n
      · obtain ⟨u, hu⟩ : ∃ u, xs[j]? = some u := ⟨_, List.getElem?_eq_getElem (by rw [HL.out.1]; exact hlt)⟩
        obtain ⟨v, hv⟩ : ∃ v, ys[j]? = some v := ⟨_, List.getElem?_eq_getElem (by rw [HL.out.2]; exact hlt)⟩
        obtain ⟨x, rfl, hxb, x0, x1, x2, x3, x4, x5⟩ := InOp.op H.out (i := j) (by rw [HL.out.1]; exact hlt)
        obtain ⟨y, rfl, hyb, y0, y1, y2, y3, y4, y5⟩ := InOp.op H'.out (i := j) (by rw [HL.out.2]; exact hlt)
        rw [List.getD_eq_getElem?_getD, hu] at x0 x1 x2 x3 x4 x5
        rw [List.getD_eq_getElem?_getD, hv] at y0 y1 y2 y3 y4 y5
        simp only [Option.getD_some] at x0 x1 x2 x3 x4 x5 y0 y1 y2 y3 y4 y5
        clear hxb hyb
        have HU := Lib.hid hu
        have HV := Lib.hid hv
        have hq := fun (W : World) => op_ne u v W
        clear hu hv
        by_cases he : u = v
        · rw [decide_eq_true he] at hq
          have HE := Lib.hid he
          clear he
          go_wp2_with fail
          go_quiet (fail)
          go_wp2_with fail
          go_roundw
          case rel => exact ⟨j + 1, _, by omega, by go_num, rfl, otake_more HU.out (by rw [HE.out]; exact HV.out) HT.out⟩
          case measure => simp [intOf]; omega
        · rw [decide_eq_false he] at hq
          have HE := Lib.hid he
          clear he
          go_wp2_with fail
          go_quiet (fail)
          go_wp2
          go_ret
          refine ⟨congrArg (fun b => Ending.returned (Value.bool b)) (decide_eq_false (fun e => ?_)).symm, _, World.drewN_drewN _ _ _⟩
          have h1 := HU.out
          rw [e, HV.out] at h1
          exact HE.out (Option.some.inj h1).symm
      · obtain rfl : j = n := by omega
        have ht := HT.out
        rw [List.take_of_length_le (by rw [HL.out.1]; exact Nat.le_refl _), List.take_of_length_le (by rw [HL.out.2]; exact Nat.le_refl _)] at ht
        have HT2 := Lib.hid ht
        clear ht
        go_wp2
        go_ret
        exact ⟨congrArg (fun b => Ending.returned (Value.bool b)) (decide_eq_true HT2.out).symm, _, rfl⟩
  · have hd : ((n : Int) == (m : Int)) = false := by simp; omega
    have hne : xs ≠ ys := by
      intro e
      apply hnm
      rw [← HL.out.1, ← HL.out.2, e]
    have HNE := Lib.hid hne
    clear h h' hne
    go_enter Tryz.func27, Tryz.ntmps27
    go_wp2
    go_ret
    exact ⟨congrArg (fun b => Ending.returned (Value.bool b)) (decide_eq_false HNE.out).symm, 0, rfl⟩
end Go.Proofs.YtjehiekmlbeaeaaGreat

namespace Go.Proofs.YtjehiekmlbeaeaaGreat
open Go Go.RowKit Go.Shelf
set_option linter.unusedSimpArgs false
set_option linter.unusedVariables false

/-- Rows that a literal makes. -/
theorem inG_made (w : World) (t : TypeId) (k : Nat) (R : List (List Value)) (hR : RowsK k R) (h : R.length ≤ 1000) : InG (w.alloc (.cells R.flatten.toArray t)) k (some ⟨w.heap.size, 0, none⟩) R := by
  refine ⟨by unfold maxLen; omega, hR, fun i hi => ⟨_, rfl, by simp, fun j hj => ?_⟩⟩
  have e : (⟨w.heap.size, 0, none⟩ : Addr).add (i * k + j) = ⟨w.heap.size, i * k + j, none⟩ := by
    unfold Addr.add
    split
    · rename_i h0
      rw [h0]
    · simp
  rw [e, (Blk.made w t _).at_, List.getElem?_toArray, hR.get hi hj]
/-- A plan in memory is one that Play takes. -/
theorem PO.inPl {w0 w : World} {ob K c : Nat} {P : List (List ActR)} {V : List Value} (h : PO w0 w ob K P V) (hk : PlnOk c P) (hc : c ≤ 900000) : InPl w (some ⟨ob, 0, none⟩) P := by
  intro i hi
  have hiK : i < K := by rw [← h.lp]; exact hi
  obtain ⟨a, vc, e, _, hin⟩ := (h.own i hiK).inG
  refine ⟨⟨ob, 0, none⟩, a, vc, rfl, h.blk.lt, ?_, hin, ?_⟩
  · have e2 : (⟨ob, 0, none⟩ : Addr).add i = ⟨ob, i, none⟩ := by unfold Addr.add; split <;> simp_all
    rw [e2, h.cell hiK, e, List.length_map]
  · have := hk.le (s := i) hi
    omega
theorem ints_nil (w : World) : InInts w none 0 [] := ⟨rfl, by simp, fun i hi => absurd hi (by omega)⟩
/-- Play of the plan of awake. -/
theorem aw_play (w : World) (bA bB bC : Nat) (hA : Blk w bA 138 #[.int .i64 0, .int .i64 5, .int .i64 1, .int .i64 0]) (hB : Blk w bB 138 #[.int .i64 2, .int .i64 0]) (hC : Blk w bC 136 #[.slice (some ⟨bA, 0, none⟩) 2 2, .slice (some ⟨bB, 0, none⟩) 1 1]) :
    Calls Tryz.prog 28 #[.int .i64 1, .slice (some ⟨bC, 0, none⟩) 2 2, .slice none 0 0] w fun e w' => ∃ a c, e = .returned (.slice a 3 c) ∧ InOp w' a awO ∧ Below w.heap.size w w' := by
  have hpl : InPl w (some ⟨bC, 0, none⟩) awP := by
    intro i hi
    have e2 : ∀ (b i : Nat), (⟨b, 0, none⟩ : Addr).add i = ⟨b, i, none⟩ := fun b i => by unfold Addr.add; split <;> simp_all
    match i, hi with
    | 0, _ =>
      refine ⟨_, some ⟨bA, 0, none⟩, 2, rfl, hC.lt, ?_, ⟨by unfold maxLen; decide, rows_act _, fun i hi => ⟨_, rfl, hA.lt, fun j hj => ?_⟩⟩, by decide⟩
      · rw [e2, hC.at_]; rfl
      · rw [e2, hA.at_]
        match i, hi, j, hj with
        | 0, _, 0, _ => rfl
        | 0, _, 1, _ => rfl
        | 1, _, 0, _ => rfl
        | 1, _, 1, _ => rfl
    | 1, _ =>
      refine ⟨_, some ⟨bB, 0, none⟩, 1, rfl, hC.lt, ?_, ⟨by unfold maxLen; decide, rows_act _, fun i hi => ⟨_, rfl, hB.lt, fun j hj => ?_⟩⟩, by decide⟩
      · rw [e2, hC.at_]; rfl
      · rw [e2, hB.at_]
        match i, hi, j, hj with
        | 0, _, 0, _ => rfl
        | 0, _, 1, _ => rfl
  have hs : sizeS (2 + (1 : Nat)) = 3 := rfl
  have hin : PlyIn w (some ⟨bC, 0, none⟩) none 2 0 awP [] (sizeS (2 + (1 : Nat))) := by
    rw [hs]
    exact ⟨hpl, rfl, by omega, ints_nil w, by omega, aw_in, fun i hi => absurd hi (by omega), by rw [aw_todo.1]; omega, by rw [aw_todo.2]; omega⟩
  refine (play_any (C := 1) (z := 1) (c := 2) (d := 0) hin (by decide)).mono ?_
  rintro e w' ⟨v, r, rfl, hown, hp, hb⟩
  rw [hs] at hp
  obtain rfl := aw_plays hp
  obtain ⟨a, c, hv, _, hi⟩ := hown.inG
  exact ⟨a, c, congrArg Ending.returned hv, hi, hb⟩
theorem aw_linG : LinG 1 awO := ⟨by decide, by decide +kernel, aw_lin⟩
theorem aw_notG : ¬ LinG 1 awE := fun h => aw_not h.2.2

set_option maxRecDepth 100000 in
set_option maxHeartbeats 16000000 in
theorem awake11_any (w : World) :
    Calls Tryz.prog 26 #[] w fun e w' => e = .returned (.bool true) ∧ Below w.heap.size w w' := by
  go_enter Tryz.func26, Tryz.ntmps26
  have hA3 : Blk (((w.alloc (.cells #[.int .i64 0, .int .i64 5, .int .i64 1, .int .i64 0] 138)).alloc (.cells #[.int .i64 2, .int .i64 0] 138)).alloc (.cells #[.slice (some ⟨w.heap.size, 0, none⟩) 2 2, .slice (some ⟨w.heap.size + 1, 0, none⟩) 1 1] 136)) w.heap.size 138 #[.int .i64 0, .int .i64 5, .int .i64 1, .int .i64 0] := ((Blk.made w _ _).alloc _).alloc _
  have hB3 : Blk (((w.alloc (.cells #[.int .i64 0, .int .i64 5, .int .i64 1, .int .i64 0] 138)).alloc (.cells #[.int .i64 2, .int .i64 0] 138)).alloc (.cells #[.slice (some ⟨w.heap.size, 0, none⟩) 2 2, .slice (some ⟨w.heap.size + 1, 0, none⟩) 1 1] 136)) (w.heap.size + 1) 138 #[.int .i64 2, .int .i64 0] := by
    have := (Blk.made (w.alloc (.cells #[.int .i64 0, .int .i64 5, .int .i64 1, .int .i64 0] 138)) 138 #[.int .i64 2, .int .i64 0]).alloc (.cells #[.slice (some ⟨w.heap.size, 0, none⟩) 2 2, .slice (some ⟨w.heap.size + 1, 0, none⟩) 1 1] 136)
    simpa using this
  have hC3 : Blk (((w.alloc (.cells #[.int .i64 0, .int .i64 5, .int .i64 1, .int .i64 0] 138)).alloc (.cells #[.int .i64 2, .int .i64 0] 138)).alloc (.cells #[.slice (some ⟨w.heap.size, 0, none⟩) 2 2, .slice (some ⟨w.heap.size + 1, 0, none⟩) 1 1] 136)) (w.heap.size + 1 + 1) 136 #[.slice (some ⟨w.heap.size, 0, none⟩) 2 2, .slice (some ⟨w.heap.size + 1, 0, none⟩) 1 1] := by
    have := Blk.made ((w.alloc (.cells #[.int .i64 0, .int .i64 5, .int .i64 1, .int .i64 0] 138)).alloc (.cells #[.int .i64 2, .int .i64 0] 138)) 136 #[.slice (some ⟨w.heap.size, 0, none⟩) 2 2, .slice (some ⟨w.heap.size + 1, 0, none⟩) 1 1]
    simpa using this
  have B3 := Lib.hid (((below_one w (.cells #[.int .i64 0, .int .i64 5, .int .i64 1, .int .i64 0] 138)).alloc (by simp) (.cells #[.int .i64 2, .int .i64 0] 138)).alloc (by simp; omega) (.cells #[.slice (some ⟨w.heap.size, 0, none⟩) 2 2, .slice (some ⟨w.heap.size + 1, 0, none⟩) 1 1] 136))
  have HP := Lib.hid (aw_play _ _ _ _ hA3 hB3 hC3)
  clear hA3 hB3 hC3
  go_wp2_with fail
  (with_reducible refine HP.out.mono ?_)
  rintro e w4 ⟨a, c, rfl, hin, hb⟩
  have B4 := Lib.hid (B3.out.trans (hb.mono B3.out.size))
  have I4 := Lib.hid hin
  clear hin hb HP B3
  have hW := inG_made w4 80 6 (awO.map opL) (rows_op _) (by decide)
  have B5 := Lib.hid (B4.out.alloc B4.out.size (.cells #[.int .i64 0, .int .i64 0, .int .i64 0, .int .i64 3, .int .i64 0, .int .i64 5, .int .i64 1, .int .i64 0, .int .i64 4, .int .i64 10, .int .i64 1, .int .i64 5, .int .i64 2, .int .i64 1, .int .i64 11, .int .i64 12, .int .i64 2, .int .i64 0] 80))
  have W5 := Lib.hid (show InOp (w4.alloc (.cells #[.int .i64 0, .int .i64 0, .int .i64 0, .int .i64 3, .int .i64 0, .int .i64 5, .int .i64 1, .int .i64 0, .int .i64 4, .int .i64 10, .int .i64 1, .int .i64 5, .int .i64 2, .int .i64 1, .int .i64 11, .int .i64 12, .int .i64 2, .int .i64 0] 80)) (some ⟨w4.heap.size, 0, none⟩) awO from hW)
  have I5 := Lib.hid (I4.out.below (below_one w4 (.cells #[.int .i64 0, .int .i64 0, .int .i64 0, .int .i64 3, .int .i64 0, .int .i64 5, .int .i64 1, .int .i64 0, .int .i64 4, .int .i64 10, .int .i64 1, .int .i64 5, .int .i64 2, .int .i64 1, .int .i64 11, .int .i64 12, .int .i64 2, .int .i64 0] 80)))
  clear hW I4 B4
  go_upto_region 3 with fail
  generalize w4.alloc (.cells #[.int .i64 0, .int .i64 0, .int .i64 0, .int .i64 3, .int .i64 0, .int .i64 5, .int .i64 1, .int .i64 0, .int .i64 4, .int .i64 10, .int .i64 1, .int .i64 5, .int .i64 2, .int .i64 1, .int .i64 11, .int .i64 12, .int .i64 2, .int .i64 0] 80) = V5 at *
  generalize w4.heap.size = g5 at *
  have hE := inG_made V5 80 6 (awE.map opL) (rows_op _) (by decide)
  have B6 := Lib.hid (B5.out.alloc B5.out.size (.cells #[.int .i64 1, .int .i64 0, .int .i64 0, .int .i64 1, .int .i64 1, .int .i64 5, .int .i64 0, .int .i64 0, .int .i64 2, .int .i64 5, .int .i64 0, .int .i64 5] 80))
  have W6 := Lib.hid (W5.out.below (below_one V5 (.cells #[.int .i64 1, .int .i64 0, .int .i64 0, .int .i64 1, .int .i64 1, .int .i64 5, .int .i64 0, .int .i64 0, .int .i64 2, .int .i64 5, .int .i64 0, .int .i64 5] 80)))
  have I6 := Lib.hid (I5.out.below (below_one V5 (.cells #[.int .i64 1, .int .i64 0, .int .i64 0, .int .i64 1, .int .i64 1, .int .i64 5, .int .i64 0, .int .i64 0, .int .i64 2, .int .i64 5, .int .i64 0, .int .i64 5] 80)))
  have E6 := Lib.hid (show InOp (V5.alloc (.cells #[.int .i64 1, .int .i64 0, .int .i64 0, .int .i64 1, .int .i64 1, .int .i64 5, .int .i64 0, .int .i64 0, .int .i64 2, .int .i64 5, .int .i64 0, .int .i64 5] 80)) (some ⟨V5.heap.size, 0, none⟩) awE from hE)
  clear hE W5 I5 B5
  go_upto_region 4 with fail
  generalize V5.alloc (.cells #[.int .i64 1, .int .i64 0, .int .i64 0, .int .i64 1, .int .i64 1, .int .i64 5, .int .i64 0, .int .i64 0, .int .i64 2, .int .i64 5, .int .i64 0, .int .i64 5] 80) = V6 at *
  generalize V5.heap.size = g6 at *
  have HS := Lib.hid (show Calls Tryz.prog 27 #[.slice a 3 c, .slice (some ⟨g5, 0, none⟩) 3 3] V6 (fun e w' => e = .returned (.bool true) ∧ ∃ d, w' = V6.drewN d) from (opsame_any I6.out W6.out c 3).mono (fun e w' h => ⟨h.1.trans (congrArg (fun b => Ending.returned (Value.bool b)) (decide_eq_true rfl)), h.2⟩))
  go_wp2_with fail
  (with_reducible refine HS.out.mono ?_)
  rintro e w7 ⟨rfl, nd, rfl⟩
  have B7 := Lib.hid (B6.out.trans ((below_drewN V6 nd).mono B6.out.size))
  have I7 := Lib.hid (I6.out.below (below_drewN V6 nd))
  have E7 := Lib.hid (E6.out.below (below_drewN V6 nd))
  clear HS B6 I6 E6 W6
  generalize V6.drewN nd = V7 at *
  have HL := Lib.hid (show Calls Tryz.prog 30 #[.slice a 3 c, .int .i64 1] V7 (LinD 1 awO V7) from linear_any 1 I7.out rfl (by decide +kernel))
  go_wp2_with fail
  (with_reducible refine HL.out.mono ?_)
  rintro e w8 ⟨b, rfl, hbi, hb8⟩
  obtain rfl : b = true := hbi.2 aw_linG
  have B8 := Lib.hid (B7.out.trans (hb8.mono B7.out.size))
  have E8 := Lib.hid (E7.out.below hb8)
  clear hbi hb8 HL B7 I7 E7
  have HL := Lib.hid (show Calls Tryz.prog 30 #[.slice (some ⟨g6, 0, none⟩) 2 2, .int .i64 1] w8 (LinD 1 awE w8) from linear_any 1 E8.out rfl (by decide +kernel))
  go_wp2_with fail
  (with_reducible refine HL.out.mono ?_)
  rintro e w9 ⟨b, rfl, hbi, hb9⟩
  obtain rfl : b = false := by
    cases b with
    | false => rfl
    | true => exact absurd (hbi.1 rfl) aw_notG
  have B9 := Lib.hid (B8.out.trans (hb9.mono B8.out.size))
  clear hbi hb9 HL B8 E8
  go_wp2
  go_ret
  exact ⟨rfl, B9.out⟩
end Go.Proofs.YtjehiekmlbeaeaaGreat
