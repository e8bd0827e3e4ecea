/-
  Stage 11: the states of the search; firstEnd.
  Stage 11: the states that the search remembers: a map whose keys are structs with arrays, told as the set of its keys.
  Stage 11: the map of the states that the search has been in: looked up, written.
-/
import Derived.Test.YtjehiekmlbeaeaaGreatLinD
import Derived.LoopTactic
import Derived.Maps.OwnSet
import Derived.Maps.OwnOps
import Derived.Maps.Views
import Derived.DeepKeys4
import Derived.WideKeyArgs2
import Derived.Test.YtjehiekmlbeaeaaGreatMgAW
import Derived.Deep.MidRow
namespace Go.Proofs.YtjehiekmlbeaeaaGreat
open Go Go.RowKit
set_option linter.unusedSimpArgs false
set_option linter.unusedVariables false

/-- The cells of a state: what is done, the list. -/
def stL (d : List Bool) (l : List Int) : List Value := d.map Value.bool ++ (lsL l).map (Value.int .i64)
def stA (d : List Bool) (l : List Int) : Array Value := (stL d l).toArray
theorem stL_len {d : List Bool} {l : List Int} (hd : d.length = 12) (hl : l.length ≤ 12) : (stL d l).length = 25 := by
  unfold stL
  rw [List.length_append, List.length_map, List.length_map, lsL_len hl, hd]
theorem stA_size {d : List Bool} {l : List Int} (hd : d.length = 12) (hl : l.length ≤ 12) : (stA d l).size = 25 := by
  unfold stA
  simpa using stL_len hd hl
theorem stA_done {d : List Bool} {l : List Int} (hd : d.length = 12) {i : Nat} (hi : i < 12) : (stA d l)[i]? = some (.bool (d.getD i false)) := by
  unfold stA stL
  rw [List.getElem?_toArray, List.getElem?_append_left (by rw [List.length_map]; omega), List.getElem?_map, List.getD_eq_getElem?_getD, List.getElem?_eq_getElem (by omega)]
  rfl
theorem stA_list {d : List Bool} {l : List Int} (hd : d.length = 12) (i : Nat) : (stA d l)[12 + i]? = (lsA l)[i]? := by
  unfold stA stL lsA
  rw [List.getElem?_toArray, List.getElem?_append_right (by rw [List.length_map]; omega), List.length_map, hd, List.getElem?_toArray, show 12 + i - 12 = i by omega]
theorem stA_set {d : List Bool} {l : List Int} (hd : d.length = 12) {j : Nat} (hj : j < 12) : (stA d l).setIfInBounds j (.bool true) = stA (d.set j true) l := by
  unfold stA stL
  rw [List.setIfInBounds_toArray, List.set_append_left _ _ (by rw [List.length_map]; omega), List.map_set]
theorem stA_one (d : List Bool) (l : List Int) : (stA d l).all (·.oneCell') = true := by
  unfold stA stL
  rw [List.all_toArray, List.all_append, Bool.and_eq_true]
  constructor
  · simp [Value.oneCell']
  · simp [Value.oneCell']
theorem info_state (n : Nat) (h : n = 25) : (Tryz.prog.info? 165).map (fun i => i.size) = some n := by
  subst h
  kernel_rfl
/-- The search's block. -/
abbrev srC (oa : Option Addr) (N oc : Nat) (cap : Int) (mb : Nat) : Array Value := #[.slice oa N oc, .int .i64 cap, .map (some mb)]
/-- The least end of what is left. -/
def FEnd (ops : List OpR) (d : List Bool) (E : Int) : Prop := ∀ x : Int, x ≤ 9223372036854775807 → (x ≤ E ↔ ∀ i, i ∈ undI ops d → x ≤ (ops.getD i .zero).b)
def FEj (ops : List OpR) (d : List Bool) (j : Nat) (V : Int) : Prop := ∀ x : Int, x ≤ 9223372036854775807 → (x ≤ V ↔ ∀ i, i < j → d.getD i false = false → x ≤ (ops.getD i .zero).b)
theorem FEj.end {ops : List OpR} {d : List Bool} {V : Int} (h : FEj ops d ops.length V) : FEnd ops d V := fun x hx => (h x hx).trans ⟨fun k i hi => k i (undI_mem.1 hi).1 (undI_mem.1 hi).2, fun k i h1 h2 => k i (undI_mem.2 ⟨h1, h2⟩)⟩
theorem FEj.start (ops : List OpR) (d : List Bool) : FEj ops d 0 9223372036854775807 := fun x hx => ⟨fun _ i hi => by omega, fun _ => hx⟩
theorem FEj.skip {ops : List OpR} {d : List Bool} {j : Nat} {V : Int} (h : FEj ops d j V) (hd : d.getD j false = true) : FEj ops d (j + 1) V := fun x hx => (h x hx).trans ⟨fun k i hi h2 => by
    by_cases e : i = j
    · subst e; rw [hd] at h2; cases h2
    · exact k i (by omega) h2, fun k i hi h2 => k i (by omega) h2⟩
theorem FEj.next {ops : List OpR} {d : List Bool} {j : Nat} {V b : Int} (h : FEj ops d j V) (hd : d.getD j false = false) (hb : (ops.getD j .zero).b = b) : FEj ops d (j + 1) (min V b) := fun x hx => by
  have e : x ≤ min V b ↔ x ≤ V ∧ x ≤ b := by omega
  rw [e, h x hx]
  constructor
  · rintro ⟨k1, k2⟩ i hi h2
    by_cases e : i = j
    · subst e; rw [hb]; exact k2
    · exact k1 i (by omega) h2
  · intro k
    exact ⟨fun i hi h2 => k i (by omega) h2, hb ▸ k j (by omega) hd⟩

/-- What the loop of firstEnd knows. -/
def FeR (w : World) (ops : List OpR) (d : List Bool) (l : List Int) (g : Nat) (i v : Value) (wr : World) : Prop :=
  ∃ (j : Nat) (V : Int), j ≤ ops.length ∧ i = .int .i64 j ∧ v = .int .i64 V ∧ FEj ops d j V ∧ Blk wr g 165 (stA d l) ∧ Below w.heap.size w wr
set_option maxRecDepth 100000 in
set_option maxHeartbeats 8000000 in
theorem firstEnd_any {w : World} {sb : Nat} {oa : Option Addr} {N oc mb : Nat} {cap : Int} {ops : List OpR} {d : List Bool} {l : List Int} (hs : Blk w sb 158 (srC oa N oc cap mb)) (ho : InOp w oa ops) (hN : ops.length = N) (h12 : N ≤ 12) (hd : d.length = 12) (hl : l.length ≤ 12) :
    Calls Tryz.prog 102 #[.pointer (some ⟨sb, 0, none⟩), .agg (stA d l)] w fun e w' => ∃ E, e = .returned (.int .i64 E) ∧ FEnd ops d E ∧ Below w.heap.size w w' := by
  have HS := Lib.hid hs
  have HO := Lib.hid (And.intro ho (And.intro hN (And.intro hd hl)))
  have HB := Lib.hid (below_one w (.cells (stA d l) 165))
  have HE := Lib.hid (Blk.made w 165 (stA d l))
  have hSz := stA_size hd hl
  clear ho hd hl hN hs
  go_enter Tryz.func102, Tryz.ntmps102
  go_upto_region 2 with fail
  generalize w.alloc (.cells (stA d l) 165) = W at *
  obtain ⟨g, hg⟩ : ∃ g, w.heap.size = g := ⟨_, rfl⟩
  have HG := Lib.hid (show w.heap.size ≤ g by omega)
  rw [hg] at HE ⊢
  clear hg
  have hs0 := HS.out.below HB.out
  have c0 := hs0.at_ 0
  have HT := Lib.hid hs0
  clear hs0
  go_upto_region 3 with fail
  go_wp2_with fail
  go_loopw [13, 5] (fun i v wr => FeR w ops d l g i v wr) (fun i _ _ => N - (intOf i).toNat)
  case atStart => exact ⟨0, _, by omega, rfl, rfl, FEj.start ops d, HE.out, HB.out⟩
  case round =>
    obtain ⟨j, V, hj, rfl, rfl, hfe, hst, hbw⟩ := hrel
    rw [HO.out.2.1] at hj
    have F := Lib.hid (And.intro hfe (And.intro hst hbw))
    clear hfe hst hbw c0
    by_cases hlt : j < N
    case neg =>
      have hjN : j = N := by omega
      subst hjN
      go_wp2
      go_ret
      exact ⟨V, rfl, FEj.end (HO.out.2.1 ▸ F.out.1), F.out.2.2⟩
    have hlt2 : (j : Int) < (N : Int) := by omega
    have hj0 : (0 : Int) ≤ (j : Int) := by omega
    have hj12 : (j : Int) < 12 := by omega
    obtain ⟨x, rfl, hxb, e0, e1, e2, e3, e4, e5⟩ := InOp.op (HO.out.1.below F.out.2.2) (i := j) (by rw [HO.out.2.1]; exact hlt)
    obtain ⟨o, hoj⟩ : ∃ o, ops.getD j .zero = o := ⟨_, rfl⟩
    rw [hoj] at e0 e1 e2 e3 e4 e5
    obtain ⟨k, m, a, b, c, v⟩ := o
    have HJ := Lib.hid hoj
    clear hoj
    go_upto_region 5 with fail
    clear e0 e1 e2 e3 e4 e5
    have HX := Lib.hid (Blk.made wr 80 (opC ⟨k, m, a, b, c, v⟩))
    have HW := Lib.hid (F.out.2.1.alloc (.cells (opC ⟨k, m, a, b, c, v⟩) 80))
    have HB2 := Lib.hid (F.out.2.2.alloc F.out.2.2.size (.cells (opC ⟨k, m, a, b, c, v⟩) 80))
    generalize wr.alloc (.cells (opC ⟨k, m, a, b, c, v⟩) 80) = V2 at *
    generalize wr.heap.size = ob at *
    have x3 : V2.cell? ⟨ob, 3, none⟩ = some (.int .i64 b) := HX.out.at_ 3
    have y0 := HW.out.at_ j
    rw [stA_done HO.out.2.2.1 (by omega)] at y0
    obtain ⟨dj, hdj⟩ : ∃ dj, d.getD j false = dj := ⟨_, rfl⟩
    rw [hdj] at y0
    have HD := Lib.hid hdj
    clear hdj
    cases dj with
    | true =>
      go_wp2_with fail
      go_round
      case rel => exact ⟨j + 1, V, by rw [HO.out.2.1]; omega, by go_num, rfl, F.out.1.skip HD.out, HW.out, HB2.out⟩
      case measure => simp [intOf]; omega
    | false =>
      have hfe := Lib.hid (F.out.1.next HD.out (b := b) (by rw [HJ.out]))
      go_wp2_with fail
      go_round
      case rel => exact ⟨j + 1, min V b, by rw [HO.out.2.1]; omega, by go_num, rfl, hfe.out, HW.out, HB2.out⟩
      case measure => simp [intOf]; omega
end Go.Proofs.YtjehiekmlbeaeaaGreat

namespace Go.Proofs.YtjehiekmlbeaeaaGreat
open Go Go.RowKit Go.Maps Go.WideElems Go.ChangeMaps Go.MapKept
set_option linter.unusedSimpArgs false
set_option linter.unusedVariables false

theorem stKeyed (hl : laidOutB Tryz.prog = true) : Keyed Tryz.prog 165 := Keyed.of_law (deep_law_laid hl (m := 4) (by omega) (of_decide_eq_true (by kernel_rfl)) (by kernel_rfl) (by kernel_rfl))
theorem kl_bool (D : Nat) (b : Bool) : Tryz.prog.keyLits (D + 1) 4 [.bool b] = some [.bool b] := by
  unfold Program.keyLits
  rw [Tryz.underlying4]
theorem kl_int (D : Nat) (n : Int) (h : (Lit.int .i64 n).wf = true) : Tryz.prog.keyLits (D + 1) 3 [.int .i64 n] = some [.int .i64 n] := by
  unfold Program.keyLits
  rw [Tryz.underlying3]
  simp [h]
theorem co_bool : Tryz.prog.cellsOf 4 = 1 := by kernel_rfl
theorem co_int : Tryz.prog.cellsOf 3 = 1 := by kernel_rfl
theorem co_arrB : Tryz.prog.cellsOf 160 = 12 := by kernel_rfl
theorem co_arrI : Tryz.prog.cellsOf 161 = 12 := by kernel_rfl
theorem co_list : Tryz.prog.cellsOf 163 = 13 := by kernel_rfl
theorem co_state : Tryz.prog.cellsOf 165 = 25 := by kernel_rfl
theorem mapM_one {α : Type} (f : Nat → Option (List α)) : ∀ (l : List Nat) , (∀ i, i ∈ l → ∃ x, f i = some x) → ∃ L, l.mapM f = some L
  | [], _ => ⟨[], rfl⟩
  | i :: l, h => by
    obtain ⟨x, hx⟩ := h i (List.mem_cons_self ..)
    obtain ⟨L, hL⟩ := mapM_one f l fun j hj => h j (List.mem_cons_of_mem _ hj)
    exact ⟨x :: L, by rw [List.mapM_cons, hx]; simp [hL]⟩
theorem kl_arrB (D : Nat) (cs : List Value) (hl : cs.length = 12) (h : ∀ i, i < 12 → ∃ b, cs[i]? = some (.bool b)) : ∃ L, Tryz.prog.keyLits (D + 2) 160 cs = some L := by
  unfold Program.keyLits
  rw [Tryz.underlying160]
  obtain ⟨L, hL⟩ := mapM_one (fun i => Tryz.prog.keyLits (D + 1) 4 ((cs.drop (i * Tryz.prog.cellsOf 4)).take (Tryz.prog.cellsOf 4))) (List.range 12) (fun i hi => by
    obtain ⟨b, hb⟩ := h i (List.mem_range.1 hi)
    refine ⟨[.bool b], ?_⟩
    have hi := List.mem_range.1 hi
    have hlt : i < cs.length := by omega
    rw [List.getElem?_eq_getElem hlt] at hb
    replace hb := Option.some.inj hb
    rw [co_bool, Nat.mul_one, List.drop_eq_getElem_cons hlt, hb, List.take_succ_cons, List.take_zero]
    exact kl_bool D b)
  refine ⟨L.flatten, ?_⟩
  show (if cs.length = Tryz.prog.cellsOf 160 then _ else none) = _
  rw [if_pos (by rw [co_arrB, hl])]
  rw [hL]
  rfl
theorem kl_arrI (D : Nat) (cs : List Value) (hl : cs.length = 12) (h : ∀ i, i < 12 → ∃ n, cs[i]? = some (.int .i64 n) ∧ (Lit.int .i64 n).wf = true) : ∃ L, Tryz.prog.keyLits (D + 2) 161 cs = some L := by
  unfold Program.keyLits
  rw [Tryz.underlying161]
  obtain ⟨L, hL⟩ := mapM_one (fun i => Tryz.prog.keyLits (D + 1) 3 ((cs.drop (i * Tryz.prog.cellsOf 3)).take (Tryz.prog.cellsOf 3))) (List.range 12) (fun i hi => by
    obtain ⟨b, hb, hw⟩ := h i (List.mem_range.1 hi)
    refine ⟨[.int .i64 b], ?_⟩
    have hi := List.mem_range.1 hi
    have hlt : i < cs.length := by omega
    rw [List.getElem?_eq_getElem hlt] at hb
    replace hb := Option.some.inj hb
    rw [co_int, Nat.mul_one, List.drop_eq_getElem_cons hlt, hb, List.take_succ_cons, List.take_zero]
    exact kl_int D b hw)
  refine ⟨L.flatten, ?_⟩
  show (if cs.length = Tryz.prog.cellsOf 161 then _ else none) = _
  rw [if_pos (by rw [co_arrI, hl])]
  rw [hL]
  rfl
/-- All values of a list are ints. -/
def InZ (l : List Int) : Prop := ∀ x, x ∈ l → (Lit.int .i64 x).wf = true
theorem wf_small (x : Int) (h : 0 ≤ x ∧ x ≤ 1000000) : (Lit.int .i64 x).wf = true := WalkArith.wf_i64 (by omega)
theorem lsL_wf {l : List Int} (hl : l.length ≤ 12) (hz : InZ l) {i : Nat} {x : Int} (h : (lsL l)[i]? = some x) : (Lit.int .i64 x).wf = true := by
  have hm := List.mem_of_getElem? h
  unfold lsL at hm
  rcases List.mem_cons.1 hm with rfl | hm
  · exact wf_small _ (by omega)
  rcases List.mem_append.1 hm with hm | hm
  · exact hz x hm
  · rw [(List.mem_replicate.1 hm).2]
    exact wf_small 0 (by omega)
theorem kl_list (D : Nat) {l : List Int} (hl : l.length ≤ 12) (hz : InZ l) : ∃ L, Tryz.prog.keyLits (D + 3) 163 ((lsL l).map (Value.int .i64)) = some L := by
  have h13 := lsL_len hl
  unfold Program.keyLits
  rw [Tryz.underlying163]
  obtain ⟨L2, h2⟩ := kl_arrI D (((lsL l).map (Value.int .i64)).drop 1) (by simp [h13]) (fun i hi => by
    have hlt : i + 1 < (lsL l).length := by omega
    refine ⟨(lsL l)[i + 1], ?_, lsL_wf hl hz (i := i + 1) (List.getElem?_eq_getElem hlt)⟩
    rw [List.getElem?_drop, List.getElem?_map, show 1 + i = i + 1 by omega, List.getElem?_eq_getElem hlt]
    rfl)
  have h0 : ∃ x, (lsL l)[0]? = some x := ⟨_, List.getElem?_eq_getElem (show 0 < (lsL l).length by omega)⟩
  obtain ⟨x, hx⟩ := h0
  have h1 : Tryz.prog.keyLits (D + 2) 3 ((((lsL l).map (Value.int .i64)).drop 0).take 1) = some [.int .i64 x] := by
    have : (((lsL l).map (Value.int .i64)).drop 0).take 1 = [.int .i64 x] := by
      rw [List.drop_zero]
      cases hL : lsL l with
      | nil => rw [hL] at h13; cases h13
      | cons y r =>
        rw [hL] at hx
        replace hx := Option.some.inj hx
        rw [hx]
        rfl
    rw [this]
    exact kl_int (D + 1) x (lsL_wf hl hz hx)
  have h3 : (((lsL l).map (Value.int .i64)).drop 1).take 12 = ((lsL l).map (Value.int .i64)).drop 1 := List.take_of_length_le (by simp [h13])
  refine ⟨[[.int .i64 x], L2].flatten, ?_⟩
  show (if ((lsL l).map (Value.int .i64)).length = Tryz.prog.cellsOf 163 ∧ _ then _ else none) = _
  rw [if_pos ⟨by rw [co_list, List.length_map, h13], by kernel_rfl⟩]
  simp only [List.mapM_cons, List.mapM_nil, co_int, co_arrI, h1, h3, h2, Option.bind_some, Option.pure_def, Option.map_some, Option.bind_eq_bind]
theorem key_state (hsz : ∃ D, Tryz.prog.types.size + 1 = D + 4) {d : List Bool} {l : List Int} (hd : d.length = 12) (hl : l.length ≤ 12) (hz : InZ l) : ∃ L, keyOf Tryz.prog 165 (.agg (stA d l)) = some L := by
  obtain ⟨D, hD⟩ := hsz
  have h25 := stL_len hd hl
  obtain ⟨L1, h1⟩ := kl_arrB (D + 1) (d.map Value.bool) (by simp [hd]) (fun i hi => ⟨d[i]'(by omega), by rw [List.getElem?_map, List.getElem?_eq_getElem (by omega)]; rfl⟩)
  obtain ⟨L2, h2⟩ := kl_list D hl hz
  have t1 : ((stL d l).drop 0).take 12 = d.map Value.bool := by
    unfold stL
    rw [List.drop_zero, List.take_append_of_le_length (by simp [hd]), List.take_of_length_le (by simp [hd])]
  have t2 : ((stL d l).drop 12).take 13 = (lsL l).map (Value.int .i64) := by
    unfold stL
    rw [List.drop_append_of_le_length (by simp [hd]), List.drop_of_length_le (by simp [hd]), List.nil_append, List.take_of_length_le (by simp [lsL_len hl])]
  have hk : Tryz.prog.keyLits (Tryz.prog.types.size + 1) 165 (stL d l) = some ([L1, L2].flatten) := by
    rw [hD]
    unfold Program.keyLits
    rw [Tryz.underlying165]
    show (if (stL d l).length = Tryz.prog.cellsOf 165 ∧ _ then _ else none) = _
    rw [if_pos ⟨by rw [co_state, h25], by kernel_rfl⟩]
    simp only [List.mapM_cons, List.mapM_nil, co_arrB, co_list, t1, t2, h1, h2, Option.bind_some, Option.pure_def, Option.map_some, Option.bind_eq_bind]
  refine ⟨.string (keyBytes ([L1, L2].flatten)), ?_⟩
  unfold keyOf
  rw [Tryz.underlying165]
  show (if (_ && _) = true then _ else none) = _
  rw [if_pos]
  · show Option.map _ (Tryz.prog.keyLits (Tryz.prog.types.size + 1) 165 (stA d l).toList) = _
    rw [show (stA d l).toList = stL d l from rfl, hk]
    rfl
  · rw [Bool.and_eq_true]
    refine ⟨by kernel_rfl, ?_⟩
    simp [Value.formed, Tryz.underlying165, co_state, stA_size hd hl]
theorem stSize : ∃ D, Tryz.prog.types.size + 1 = D + 4 := ⟨Tryz.prog.types.size - 3, by
  have h : 3 ≤ Tryz.prog.types.size := of_decide_eq_true (by kernel_rfl)
  omega⟩
end Go.Proofs.YtjehiekmlbeaeaaGreat

namespace Go.Proofs.YtjehiekmlbeaeaaGreat
open Go Go.RowKit Go.Maps Go.WideElems Go.ChangeMaps Go.MapKept
set_option linter.unusedSimpArgs false
set_option linter.unusedVariables false

theorem lsL_inj {l l' : List Int} (h : lsL l = lsL l') : l = l' := by
  unfold lsL at h
  rw [List.cons.injEq] at h
  obtain ⟨h1, h2⟩ := h
  exact (List.append_inj h2 (by omega)).1
theorem stA_inj {d d' : List Bool} {l l' : List Int} (hd : d.length = 12) (hd' : d'.length = 12) (h : stA d l = stA d' l') : d = d' ∧ l = l' := by
  replace h : stL d l = stL d' l' := congrArg Array.toList h
  unfold stL at h
  obtain ⟨h1, h2⟩ := List.append_inj h (by simp [hd, hd'])
  refine ⟨?_, lsL_inj ?_⟩
  · exact (List.map_inj_right (fun a b e => by injection e)).1 h1
  · exact (List.map_inj_right (fun a b e => by injection e)).1 h2
theorem zeroB (w : World) : (zeroValue 4).run Tryz.prog w = .ok (.bool false) w := by kernel_rfl
/-- Block b is a map of states, true at those of V. -/
def MSt (w : World) (b n : Nat) (V : List Bool → List Int → Prop) : Prop :=
  ∃ D : DataW Unit, w.ownsMap Tryz.prog 165 (plainElem Tryz.prog 4) b n D ∧ ∀ d l L, d.length = 12 → l.length ≤ 12 → InZ l → keyOf Tryz.prog 165 (.agg (stA d l)) = some L → ∃ c : Bool, D.atKey L (.lit (.bool false)) = .lit (.bool c) ∧ (c = true ↔ V d l)
section
variable {w w' : World} {b n : Nat} {V : List Bool → List Int → Prop} {d : List Bool} {l : List Int}
theorem MSt.lt (h : MSt w b n V) : b < w.heap.size := by
  obtain ⟨D, hown, _⟩ := h
  exact hown.lt
theorem MSt.same (h : MSt w b n V) (e : w'.heap[b]? = w.heap[b]?) : MSt w' b n V := by
  obtain ⟨D, hown, hD⟩ := h
  obtain ⟨es, clock, hb0, r⟩ := hown
  exact ⟨D, ⟨es, clock, e.trans hb0, r⟩, hD⟩
theorem MSt.mono {m : Nat} (h : MSt w b n V) (hm : n ≤ m) : MSt w b m V := by
  obtain ⟨D, hown, hD⟩ := h
  exact ⟨D, hown.mono hm, hD⟩
theorem MSt.below (h : MSt w b n V) (hb : Below w.heap.size w w') : MSt w' b n V := h.same (hb.block b h.lt)
theorem MSt.made (w : World) : MSt (w.alloc (.map #[] 0)) w.heap.size 0 (fun _ _ => False) :=
  ⟨.map [], World.ownsMap_made _ _ _ _, fun d l L _ _ _ _ => ⟨false, rfl, by simp⟩⟩
theorem MSt.ty (h : MSt w b n V) {g : Nat} {t : TypeId} {cs : Array Value} (hb : Blk w g t cs) : g ≠ b := by
  obtain ⟨D, ⟨es, clock, hb0, _⟩, _⟩ := h
  intro e
  subst e
  unfold Blk at hb
  rw [hb0] at hb
  cases hb
set_option maxRecDepth 100000 in
theorem plain_bool {v : Value} {c : Bool} {ps : List MemPlace} (h : plainElem (H := Unit) Tryz.prog 4 v = some (.lit (.bool c), ps)) : v = .bool c := by
  unfold plainElem at h
  rw [Tryz.underlying4] at h
  cases v <;> simp at h
  rw [h.1]
theorem MSt.look (h : MSt w b n V) (hd : d.length = 12) (hl : l.length ≤ 12) (hz : InZ l) : ∃ c : Bool, (c = true ↔ V d l) ∧ (Instr.lookup 156 (.map (some b)) (.agg (stA d l)) false).run Tryz.prog w = .ok (.bool c) w := by
  obtain ⟨D, hown, hD⟩ := h
  obtain ⟨L, hL⟩ := key_state stSize hd hl hz
  obtain ⟨v, ps, hrun, hv⟩ := hown.lookup (stKeyed laidOut) Tryz.underlying156 (zeroB w) (plainElem_bool Tryz.underlying4 false) hL
  obtain ⟨c, hc, hcV⟩ := hD d l L hd hl hz hL
  rw [hc] at hv
  rw [plain_bool hv] at hrun
  exact ⟨c, hcV, hrun⟩
theorem MSt.put (h : MSt w b n V) (hn : n < maxLen) (hd : d.length = 12) (hl : l.length ≤ 12) (hz : InZ l) :
    ∃ w', (Instr.mapUpdate 156 (.map (some b)) (.agg (stA d l)) (.bool true)).run Tryz.prog w = .ok () w' ∧ MSt w' b (n + 1) (fun d' l' => V d' l' ∨ (d' = d ∧ l' = l)) ∧ w.grownBy w' (some b) := by
  obtain ⟨D, hown, hD⟩ := h
  obtain ⟨L, hL⟩ := key_state stSize hd hl hz
  have K := stKeyed laidOut
  obtain ⟨es, hes, _⟩ := hown.entries K
  have hM : IsMap D := ⟨es, hes⟩
  obtain ⟨w', hrun, r1, r2⟩ := hown.update K Tryz.underlying156 hn hL (plainElem_bool Tryz.underlying4 true)
  refine ⟨w', hrun, ⟨_, r1, fun d' l' L' hd' hl' hz' hL' => ?_⟩, r2⟩
  by_cases e : L' = L
  · subst e
    have := K.inj hL' hL
    obtain ⟨e1, e2⟩ := stA_inj hd' hd (by injection this)
    exact ⟨true, atKey_put_same hM (K.key hL) _ _, by simp [e1, e2]⟩
  · obtain ⟨c, hc, hcV⟩ := hD d' l' L' hd' hl' hz' hL'
    refine ⟨c, (atKey_put_other e _ _).trans hc, hcV.trans ⟨.inl, fun k => ?_⟩⟩
    rcases k with k | ⟨k1, k2⟩
    · exact k
    · subst k1
      subst k2
      rw [hL] at hL'
      exact absurd (Option.some.inj hL').symm e
end
theorem list12 {α : Type} {l : List α} (h : l.length = 12) : ∃ a b c d e f g h i j k m, l = [a, b, c, d, e, f, g, h, i, j, k, m] := by
  match l, h with
  | [a, b, c, d, e, f, g, h, i, j, k, m], _ => exact ⟨a, b, c, d, e, f, g, h, i, j, k, m, rfl⟩
theorem list13 {α : Type} {l : List α} (h : l.length = 13) : ∃ a b c d e f g h i j k m n, l = [a, b, c, d, e, f, g, h, i, j, k, m, n] := by
  match l, h with
  | [a, b, c, d, e, f, g, h, i, j, k, m, n], _ => exact ⟨a, b, c, d, e, f, g, h, i, j, k, m, n, rfl⟩
theorem built_letters (b0 b1 b2 b3 b4 b5 b6 b7 b8 b9 b10 b11 : Bool) (n0 n1 n2 n3 n4 n5 n6 n7 n8 n9 n10 n11 n12 : Int) : Tryz.prog.built 165 [(0, .agg ([b0, b1, b2, b3, b4, b5, b6, b7, b8, b9, b10, b11].map Value.bool).toArray), (1, .agg ([n0, n1, n2, n3, n4, n5, n6, n7, n8, n9, n10, n11, n12].map (Value.int .i64)).toArray)] = some ([b0, b1, b2, b3, b4, b5, b6, b7, b8, b9, b10, b11].map Value.bool ++ [n0, n1, n2, n3, n4, n5, n6, n7, n8, n9, n10, n11, n12].map (Value.int .i64)).toArray := by kernel_rfl
theorem built_state (d : List Bool) (l : List Int) (hd : d.length = 12) (hl : l.length ≤ 12) : Tryz.prog.built 165 [(0, .agg (d.map Value.bool).toArray), (1, .agg (lsA l))] = some (stA d l) := by
  have h13 := lsL_len hl
  unfold stA stL lsA
  obtain ⟨n0, n1, n2, n3, n4, n5, n6, n7, n8, n9, n10, n11, n12, hx⟩ := list13 h13
  rw [hx]
  obtain ⟨b0, b1, b2, b3, b4, b5, b6, b7, b8, b9, b10, b11, hy⟩ := list12 hd
  rw [hy]
  exact built_letters _ _ _ _ _ _ _ _ _ _ _ _ _ _ _ _ _ _ _ _ _ _ _ _ _
end Go.Proofs.YtjehiekmlbeaeaaGreat
