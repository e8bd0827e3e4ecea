/-
  workstealkeep.Deque of no entries, and what law 12 needs of it.
  Bytes that came in.
  Plain mathematics: what a step of a steal keeps. No function is named.
  The walk of the statement BitmapKeeps: it returns true. (Written by wip/gen_l12.py.)
-/
import Derived.Test.YtllllbepnnpeeaaMgAW
import Derived.Test.YtllllbepnnpeeaaMgAH
import Derived.Test.YtllllbepnnpeeaaMgAA
import Derived.Test.YtllllbepnnpeeaaMgAB
import Derived.LoopTactic
import Derived.Deep.Cut
import Derived.Test.YtllllbepnnpeeaaMgAN
import Derived.Test.YtllllbepnnpeeaaMgAE
import Derived.OwnWalk
import Derived.Deep.CutRange
namespace Go.Proofs.Ytllllbepnnpeeaa
open Go Go.RowKit
set_option linter.unusedSimpArgs false

set_option maxRecDepth 100000 in
set_option maxHeartbeats 8000000 in
theorem deque_none {w : World} {a : Option Addr} {L : Nat} (c n t sz : Nat) (hn : 1 ≤ n ∧ n ≤ 100) (ht : t < 18446744073709551616) (hs : sz = 0) :
    Calls Try.prog 24 #[.int .i64 n, .int .u64 t, .int .i64 sz, .slice a L c] w (fun e w' => ∃ g : Nat, e = .returned (.slice (some ⟨g, 0, none⟩) (n + 3 : Nat) (n + 3 : Nat)) ∧ Row w' g (n + 3) (n + 3) (((List.replicate (n + 3) 0).set 0 (t : Int)).set 1 (IntKind.u64.wrap ((t : Int) + (sz : Int)))) ∧ w.heap.size ≤ g ∧ Below w.heap.size w w') := by
  have hmk := fun (W : World) => run_make_row' (P := Try.prog) 44 39 (.int .u64 0) 8 Try.underlying44 info_u64 rfl .i64 .i64 (n + 3) (by omega) (by omega) W
  rw [show ((n + 3 : Nat) : Int) = (n : Int) + 3 by omega] at hmk
  have hrow := made_row w (n + 3) (by omega)
  have hb0 := below_one w (.cells (madeCells #[.int .u64 0] (n + 3)) 39)
  obtain ⟨U, hU⟩ : ∃ U, IntKind.u64.wrap ((t : Int) + (sz : Int)) = U := ⟨_, rfl⟩
  rw [hU]
  have HST0 := Lib.hid (show Row (((w.alloc (.cells (madeCells #[.int .u64 0] (n + 3)) 39)).setCell ⟨w.heap.size, 0, none⟩ (.int .u64 t)).setCell ⟨w.heap.size, 1, none⟩ (.int .u64 U)) w.heap.size (n + 3) (n + 3) (((List.replicate (n + 3) 0).set 0 (t : Int)).set 1 U) ∧ Below w.heap.size w (((w.alloc (.cells (madeCells #[.int .u64 0] (n + 3)) 39)).setCell ⟨w.heap.size, 0, none⟩ (.int .u64 t)).setCell ⟨w.heap.size, 1, none⟩ (.int .u64 U)) from
    ⟨((made_row w (n + 3) (by omega)).put (i := 0) (t : Int)).put (i := 1) U, ((below_one w (.cells (madeCells #[.int .u64 0] (n + 3)) 39)).setCell (p := ⟨w.heap.size, 0, none⟩) (Nat.le_refl _) (.int .u64 t)).setCell (p := ⟨w.heap.size, 1, none⟩) (Nat.le_refl _) (.int .u64 U)⟩)
  have hc0 := hrow.cell (i := 0) (by omega)
  have hc1 := hrow.cell (i := 1) (by omega)
  have hf0 := hrow.free 0
  have hf1 := hrow.free 1
  have hX0 : ∀ i : Nat, (List.replicate (n + 3) (0 : Int)).getD i 0 = 0 := by
    intro i
    rw [List.getD_eq_getElem?_getD, List.getElem?_replicate]
    split <;> rfl
  rw [hX0] at hc0 hc1
  have i0 : (0 : Int) < ((n + 3 : Nat) : Int) := by omega
  have i1 : (1 : Int) < ((n + 3 : Nat) : Int) := by omega
  have HN := Lib.hid (And.intro hn (And.intro ht hs))
  have hsn : sz ≤ n := by omega
  have hn1 : 1 ≤ n := hn.1
  have hn2 : n ≤ 100 := hn.2
  clear hrow hb0 hX0 hs
  generalize hN3 : n + 3 = N3 at *
  go_enter Try.func24, Try.ntmps24
  go_upto_region 2 with fail
  generalize w.alloc (.cells (madeCells #[.int .u64 0] N3) 39) = W1 at *
  clear hmk
  go_wp2_with fail
  clear hc0 hc1 hf0 hf1
  generalize hg : w.heap.size = g at *
  have HG := Lib.hid (show w.heap.size ≤ g from Nat.le_of_eq hg)
  have HG2 := Lib.hid hg
  clear hg
  go_loopw [10] (fun i wr => ∃ j : Nat, j = sz ∧ i = .int .i64 j ∧ Row wr g N3 N3 (((List.replicate N3 0).set 0 (t : Int)).set 1 U) ∧ Below w.heap.size w wr) (fun _ _ => 0)
  case atStart => exact ⟨0, HN.out.2.2.symm, rfl, HST0.out.1, by rw [HG2.out]; exact HST0.out.2⟩
  case round =>
    clear HST0
    obtain ⟨j, rfl, rfl, hr, hb⟩ := hrel
    have HH := Lib.hid (And.intro hr hb)
    clear hr hb
    go_wp2
    go_ret
    exact ⟨g, rfl, HH.out.1, HG.out, HH.out.2⟩
theorem ints_two (w : World) (x y : Int) : InInts (w.alloc (.cells #[.int .i64 x, .int .i64 y] 3)) (some ⟨w.heap.size, 0, none⟩) 2 [x, y] := by
  refine ⟨rfl, by unfold maxLen; omega, fun i hi => ⟨⟨w.heap.size, 0, none⟩, rfl, by simp, ?_⟩⟩
  have e : (⟨w.heap.size, 0, none⟩ : Addr).add i = ⟨w.heap.size, i, none⟩ := by unfold Addr.add; split <;> simp_all
  rw [e, (Blk.made w 3 _).at_ i]
  match i, hi with
  | 0, _ => rfl
  | 1, _ => rfl
/-- Deque(4, 0, k, ..): the words that matter. -/
theorem deque6_any {w : World} {a : Option Addr} {zs : List Int} {L : Nat} (h : InInts w a L zs) (c k : Nat) (hk : k ≤ 2) :
    Calls Try.prog 24 #[.int .i64 4, .int .u64 0, .int .i64 k, .slice a L c] w fun e w' =>
      ∃ (g : Nat) (X : List Int), e = .returned (.slice (some ⟨g, 0, none⟩) 7 7) ∧ Row w' g 7 7 X ∧ (∀ x, x ∈ X → 0 ≤ x) ∧ w.heap.size ≤ g ∧ Below w.heap.size w w' ∧ X.getD 0 0 = 0 ∧ X.getD 1 0 = k ∧ (k = 0 → X.getD 6 0 = 0) := by
  rcases Nat.eq_zero_or_pos k with e | e
  · refine (deque_none (a := a) (L := L) (w := w) c 4 0 k (by omega) (by omega) e).mono ?_
    rintro e2 w' ⟨g, rfl, hr, hg, hb⟩
    subst e
    exact ⟨g, _, rfl, hr, by decide, hg, hb, rfl, rfl, fun _ => rfl⟩
  · refine (deque_any h c 4 0 k (by omega) (by omega) (by omega)).mono ?_
    rintro e2 w' ⟨g, X, l, rfl, hr, hX, hg, hb, _, _, hd⟩
    obtain ⟨h1, h2⟩ := hd (by omega)
    exact ⟨g, X, rfl, hr, hX, hg, hb, h1.top, by rw [h2]; omega, fun e0 => by omega⟩
end Go.Proofs.Ytllllbepnnpeeaa

namespace Go.Proofs.Ytllllbepnnpeeaa
open Go Go.ChangeShapes Go.WideShapes Go.ChangeAt Go.RowKit
set_option linter.unusedSimpArgs false

/-- The slice (a, n) reads as the bytes zs. -/
def InBytes (w : World) (a : Option Addr) (n : Nat) (zs : List Int) : Prop :=
  zs.length = n ∧ n ≤ maxLen ∧ ∀ i, i < n → ∃ x : Addr, a = some x ∧ x.block < w.heap.size ∧ w.cell? (x.add i) = some (.int .u8 (zs.getD i 0)) ∧ 0 ≤ zs.getD i 0 ∧ zs.getD i 0 ≤ 255

theorem InBytes.below {w w' : World} {a : Option Addr} {n : Nat} {zs : List Int} (h : InBytes w a n zs) (hb : Below w.heap.size w w') : InBytes w' a n zs :=
  ⟨h.1, h.2.1, fun i hi => by
    obtain ⟨x, e, hx, hc, hr⟩ := h.2.2 i hi
    refine ⟨x, e, Nat.lt_of_lt_of_le hx hb.size, ?_, hr⟩
    rw [hb.cell (by rw [show (x.add i).block = x.block by unfold Addr.add; split <;> rfl]; exact hx)]
    exact hc⟩
theorem InBytes.drew {w : World} {a : Option Addr} {n : Nat} {zs : List Int} (h : InBytes w a n zs) : InBytes w.drew a n zs := h

set_option maxRecDepth 100000 in
theorem open_bytes {H : Type} {enc : TypeId × Value → H} {w : World} {base b0 : Nat} {spare : Nat → Bool} {held : Bool} {r : Reach} {v : Value} {d : DataW H} {p : List MemPlace}
    (hv : Value.okWide Try.prog w r b0 68 v) (h : DataW.Trod enc Try.prog w base spare held 68 v d p) :
    ∃ (a : Option Addr) (n c : Nat) (zs : List Int), v = .slice a n c ∧ InBytes w a n zs := by
  obtain ⟨a, n, c, rfl⟩ := okWide_slice Try.underlying68 hv
  obtain ⟨fuel, hf⟩ := h
  rcases open_ints Try.underlying68 Try.underlying5 (by kernel_rfl) hf with ⟨hcs, _⟩ | ⟨x, l, c', zs, hcs, _, hl, hm, hz, _, hcell, hwf⟩
  · simp [Value.cells] at hcs
    obtain ⟨rfl, rfl, rfl⟩ := hcs
    exact ⟨_, _, _, [], rfl, rfl, by simp, fun i hi => absurd hi (by omega)⟩
  · simp [Value.cells] at hcs
    obtain ⟨rfl, rfl, rfl⟩ := hcs
    have hnz : n ≤ zs.length := by rw [hz]; split <;> omega
    refine ⟨_, _, _, zs.take n, rfl, by simp; omega, by omega, fun i hi => ⟨x, rfl, ?_, ?_, ?_⟩⟩
    · have := World.block_lt_of_cell? w _ (hcell i (by omega))
      rwa [show (x.add i).block = x.block by unfold Addr.add; split <;> rfl] at this
    · rw [hcell i (by omega), List.getD_eq_getElem?_getD, List.getD_eq_getElem?_getD, List.getElem?_take, if_pos hi]
    · have hi' : i < zs.length := by omega
      have hw := hwf (zs[i]) (List.getElem_mem hi')
      have e : (zs.take n).getD i 0 = zs[i] := by
        rw [List.getD_eq_getElem?_getD, List.getElem?_take, if_pos hi, List.getElem?_eq_getElem hi']
        rfl
      rw [e]
      simp only [Lit.wf, Bool.and_eq_true, decide_eq_true_eq] at hw
      have h0 : IntKind.u8.min = 0 := rfl
      have h1 : IntKind.u8.max = 255 := rfl
      rw [h0, h1] at hw
      exact hw
end Go.Proofs.Ytllllbepnnpeeaa

namespace Go.Proofs.Ytllllbepnnpeeaa
open Go Go.RowKit
set_option linter.unusedSimpArgs false

theorem steal_res (s : St) (f : Fra) : (if s.hit f.qt f.fv then (⟨true, 1, wrap64 f.fw⟩ : Res) else ⟨true, 4, 0⟩).dn = true := by
  split <;> rfl
theorem steal_keeps : Keeps stealS StealOk := by
  refine ⟨fun s f hs h => ?_, fun s f hs h hd => ?_, fun s f hs h => ?_, fun s f h => ?_, fun s f hd => ?_, fun s f => ?_, fun s f => ?_⟩
  · obtain ⟨hl, hu, hv, hq⟩ := h
    unfold stealS
    split
    · exact go_N hs _ _ _ (fun x hx => hx)
    split
    · split <;> exact go_N hs _ _ _ (fun x hx => hx)
    split
    · exact go_N hs _ _ _ (fun x hx => hx)
    · show (s.go 3 f.qt (fun x => if x = f.fv then add1 f.fv else x)).N
      apply go_N hs
      intro x hx
      show 0 ≤ if x = f.fv then add1 f.fv else x
      split
      · exact u64_nn _
      · exact hx
  · obtain ⟨hl, hu, hv, hq⟩ := h
    revert hd
    unfold stealS
    split
    · intro _
      exact ⟨.inr (.inl rfl), hu, hs _, hq⟩
    split
    · split
      · intro hd
        exact absurd hd (by simp)
      · intro _
        exact ⟨.inr (.inr (.inl rfl)), hs _, hv, hq⟩
    split
    · intro _
      exact ⟨.inr (.inr (.inr rfl)), hu, hv, hq⟩
    · intro hd
      exact absurd ((steal_res s f).symm.trans hd) (by simp)
  · obtain ⟨hl, hu, hv, hq⟩ := h
    unfold stealS
    split
    · exact ⟨hu, hs _⟩
    split
    · split <;> exact ⟨hs _, hv⟩
    split <;> exact ⟨hu, hv⟩
  · unfold stealS
    split
    · exact go_c _ _ _ h
    split
    · split <;> exact go_c _ _ _ h
    split <;> exact go_c _ _ _ h
  · revert hd
    unfold stealS
    split
    · intro _; exact ⟨rfl, rfl⟩
    split
    · split
      · intro hd; exact absurd hd (by simp)
      · intro _; exact ⟨rfl, rfl⟩
    split
    · intro _; exact ⟨rfl, rfl⟩
    · intro hd; exact absurd ((steal_res s f).symm.trans hd) (by simp)
  · unfold stealS
    split
    · exact ⟨rfl, rfl, rfl⟩
    split
    · split <;> exact ⟨rfl, rfl, rfl⟩
    split <;> exact ⟨rfl, rfl, rfl⟩
  · unfold stealS
    split
    · exact go_len _ _ _ _
    split
    · split <;> exact go_len _ _ _ _
    split <;> exact go_len _ _ _ _
end Go.Proofs.Ytllllbepnnpeeaa

namespace Go.Proofs.Ytllllbepnnpeeaa
open Go Go.RowKit Go.Shelf
set_option linter.unusedSimpArgs false
set_option linter.unusedVariables false

set_option maxRecDepth 100000 in
set_option maxHeartbeats 16000000 in
theorem keeps12_law {w : World} {la : Option Addr} {L : Nat} {lz : List Int} (n bt : Int) (lc : Nat) (hn : 0 ≤ n ∧ n ≤ 255) (hbt : 0 ≤ bt ∧ bt ≤ 255) (hl : InBytes w la L lz) :
    Calls Try.prog 8 #[.int .u8 n, .int .u8 bt, .slice la L lc] w fun e w' => e = .returned (.bool true) ∧ Below w.heap.size w w' := by
  have hml := hl.2.1
  unfold maxLen at hml
  have HL := Lib.hid hl
  clear hl
  by_cases h100 : 100 < L
  · go_enter Try.func8, Try.ntmps8
    go_wp2
    go_ret
    exact ⟨rfl, Below.refl _ _⟩
  have h101 : decide (100 < (L : Int)) = false := decide_eq_false (by omega)
  obtain ⟨K, hK, hK2⟩ : ∃ K : Nat, n % 3 = (K : Int) ∧ K ≤ 2 := ⟨(n % 3).toNat, by omega, by omega⟩
  obtain ⟨b, hb, hb2⟩ : ∃ b : Nat, bt % 64 = (b : Int) ∧ b < 64 := ⟨(bt % 64).toNat, by omega, by omega⟩
  have HC := Lib.hid (And.intro hK2 (And.intro hb2 h100))
  go_enter Try.func8, Try.ntmps8
  go_wp2_with fail
  (with_reducible refine (queue_any 4 _).mono ?_)
  rintro e w2 ⟨rfl, hb2⟩
  have B2 := Lib.hid hb2
  clear hb2
  go_upto_region 4 with fail
  have Q3 := Lib.hid (Blk.made w2 52 (qcells 0 1 2 4))
  have B3 := Lib.hid (B2.out.alloc B2.out.size (.cells (qcells 0 1 2 4) 52))
  generalize w2.alloc (.cells (qcells 0 1 2 4) 52) = W3 at *
  generalize w2.heap.size = qb at *
  clear B2
  go_wp2_with fail
  have hli := ints_two W3 5 6
  have hlb := below_one W3 (.cells #[.int .i64 5, .int .i64 6] 3)
  have HDQ := Lib.hid (fun c => deque6_any hli c K HC.out.1)
  have Q4 := Lib.hid (Q3.out.below hlb)
  have B4 := Lib.hid (B3.out.trans (hlb.mono B3.out.size))
  clear hli hlb Q3 B3
  (with_reducible refine (HDQ.out _).mono ?_)
  rintro e w4 ⟨gd, X, rfl, hr4, hX, hg4, hb4, hx0, hx1, hx6⟩
  have Q5 := Lib.hid (Q4.out.below hb4)
  have HGD := Lib.hid (show w.heap.size ≤ gd by have := B4.out.size; omega)
  have B5 := Lib.hid (B4.out.trans (hb4.mono B4.out.size))
  have R5 := Lib.hid hr4
  have HXX := Lib.hid (And.intro hX (And.intro hx0 (And.intro hx1 hx6)))
  clear hr4 hX hg4 hb4 Q4 B4 HDQ hx0 hx1 hx6
  go_upto_if 36 with fail
  go_cut [] from 35 to 40 (fun wx => ∃ X2, Row wx gd 7 7 X2 ∧ (∀ x, x ∈ X2 → 0 ≤ x) ∧ X2.getD 0 0 = 0 ∧ X2.getD 1 0 = K ∧ (X2.getD 6 0 = 0 ∨ X2.getD 6 0 = maskS b) ∧ Blk wx qb 52 (qcells 0 1 2 4) ∧ Below w.heap.size w wx)
  case first =>
    by_cases hk0 : 0 < K
    · have hk1 : (0 : Int) < (K : Int) := by omega
      go_wp2_with fail
      (with_reducible refine (mask_any b _).mono ?_)
      rintro e wx ⟨rfl, rfl⟩
      have c6 := R5.out.cell (i := 6) (by omega)
      have f6 := R5.out.free 6
      have hne : qb ≠ gd := by
        obtain ⟨cur, hg, _⟩ := R5.out.blk
        exact Q5.out.apart hg (by decide)
      have HNE := Lib.hid hne
      clear hne
      go_wp2_with fail
      go_meet
      case rel =>
        have hlen := R5.out.len
        refine ⟨X.set 6 (maskS b), R5.out.put _, ?_, ?_, ?_, .inr ?_, Q5.out.of_same (Below.heap_setCell _ _ _ _ HNE.out), B5.out.setCell HGD.out _⟩
        · obtain ⟨M, _, eM⟩ := maskS_some b
          exact set_nn HXX.out.1 6 (by omega)
        · rw [List.getD_eq_getElem?_getD, List.getElem?_set_ne (by omega), ← List.getD_eq_getElem?_getD]
          exact HXX.out.2.1
        · rw [List.getD_eq_getElem?_getD, List.getElem?_set_ne (by omega), ← List.getD_eq_getElem?_getD]
          exact HXX.out.2.2.1
        · rw [List.getD_eq_getElem?_getD, List.getElem?_set_self (by omega)]
          rfl
    · have hk1 : decide ((0 : Int) < (K : Int)) = false := decide_eq_false (by omega)
      go_wp2_with fail
      go_meet
      case rel => exact ⟨X, R5.out, HXX.out.1, HXX.out.2.1, HXX.out.2.2.1, .inl (HXX.out.2.2.2 (by omega)), Q5.out, B5.out⟩
  case rest =>
  clear R5 HXX Q5 B5
  obtain ⟨X2, hr, hX, hx0, hx1, hx6, hq, hbl⟩ := hcut
  have R6 := Lib.hid hr
  have HXX := Lib.hid (And.intro hX (And.intro hx0 (And.intro hx1 hx6)))
  have Q6 := Lib.hid hq
  have B6 := Lib.hid hbl
  clear hr hX hx0 hx1 hx6 hq hbl
  go_wp2_with fail
  (with_reducible refine (mbare_any R6.out.inW 7 (by omega)).mono ?_)
  rintro e w5 ⟨p, m, k, g, q, ag, acap, s, rfl, hd, hsX, hsc, hb5⟩
  have hs4 := B6.out.size
  have A8 := Lib.hid (show BW w p m k g 7 hd0 nilV nilV 0 0 s w5 from ⟨hd.e, Row.inNN HXX.out.1 hsX, B6.out.trans (hb5.mono hs4), Nat.le_trans hs4 hd.bp, Nat.le_trans hs4 hd.bm, Nat.le_trans hs4 hd.bk, Nat.le_trans hs4 hd.bg⟩)
  have Q8 := Lib.hid (Q6.out.below hb5)
  have HS := Lib.hid (And.intro (show s.X.length = 7 by rw [hsX]; exact R6.out.len) (And.intro (show s.old 0 = 0 from (st_old hsX 0 (by rw [R6.out.len]; omega)).trans HXX.out.2.1) (And.intro (show s.old 1 = K from (st_old hsX 1 (by rw [R6.out.len]; omega)).trans HXX.out.2.2.1) (show s.old 6 = 0 ∨ s.old 6 = maskS b by rw [show s.old 6 = X2.getD 6 0 from st_old hsX 6 (by rw [R6.out.len]; omega)]; exact HXX.out.2.2.2))))
  clear hd hsX hsc hb5 hs4 Q6 HXX R6 B6
  go_wp2_with fail
  have D8 := Lib.hid (A8.out.below (below_drew (Below.refl _ _)))
  have E8 := Lib.hid (Q8.out.below (below_drew (Below.refl _ _)))
  clear A8 Q8
  have y0 : w5.drew.cell? ⟨qb, 0, none⟩ = some (.int .i64 0) := E8.out.at_ 0
  have y1 : w5.drew.cell? ⟨qb, 1, none⟩ = some (.int .i64 1) := E8.out.at_ 1
  have y2 : w5.drew.cell? ⟨qb, 2, none⟩ = some (.int .i64 2) := E8.out.at_ 2
  have y3 : w5.drew.cell? ⟨qb, 3, none⟩ = some (.int .i64 4) := E8.out.at_ 3
  go_region_held3 (fun w' => w'.cell? ⟨qb, 0, none⟩ = some (.int .i64 0) ∧ w'.cell? ⟨qb, 1, none⟩ = some (.int .i64 1) ∧ w'.cell? ⟨qb, 2, none⟩ = some (.int .i64 2) ∧ w'.cell? ⟨qb, 3, none⟩ = some (.int .i64 4)) ((first | exact ⟨x0, x1, x2, x3⟩ | exact ⟨z0, z1, z2, z3⟩ | exact ⟨v0, v1, v2, v3⟩ | exact ⟨u0, u1, u2, u3⟩ | exact ⟨y0, y1, y2, y3⟩ | go_keep))
    (first
     | (go_at_call 25
        refine (oPush_any 0 1 2 4 9 _).mono ?_
        rintro e w9 ⟨xp, rfl, ho, hx, hb⟩
        have O9 := Lib.hid ho
        have L9 := Lib.hid (show w.heap.size ≤ xp from Nat.le_trans D8.out.b.size hx)
        have A9 := Lib.hid (D8.out.below hb)
        have Q9 := Lib.hid (E8.out.below hb)
        have BB9 := Lib.hid hb
        have u0 : w9.cell? ⟨qb, 0, none⟩ = some (.int .i64 0) := Q9.out.at_ 0
        have u1 : w9.cell? ⟨qb, 1, none⟩ = some (.int .i64 1) := Q9.out.at_ 1
        have u2 : w9.cell? ⟨qb, 2, none⟩ = some (.int .i64 2) := Q9.out.at_ 2
        have u3 : w9.cell? ⟨qb, 3, none⟩ = some (.int .i64 4) := Q9.out.at_ 3
        clear ho hx hb)
     | (go_at_call 19
        refine (bSet_any 6 b _).mono ?_
        rintro e w10 ⟨xs, rfl, ho, hx, hb⟩
        have O10 := Lib.hid ho
        have L10 := Lib.hid (show w.heap.size ≤ xs from Nat.le_trans A9.out.b.size hx)
        have A10 := Lib.hid (A9.out.below hb)
        have Q10 := Lib.hid (Q9.out.below hb)
        have BB10 := Lib.hid hb
        have v0 : w10.cell? ⟨qb, 0, none⟩ = some (.int .i64 0) := Q10.out.at_ 0
        have v1 : w10.cell? ⟨qb, 1, none⟩ = some (.int .i64 1) := Q10.out.at_ 1
        have v2 : w10.cell? ⟨qb, 2, none⟩ = some (.int .i64 2) := Q10.out.at_ 2
        have v3 : w10.cell? ⟨qb, 3, none⟩ = some (.int .i64 4) := Q10.out.at_ 3
        clear ho hx hb)
     | (go_at_call 20
        refine (bClear_any 6 b 0 1 2 4 _).mono ?_
        rintro e w11 ⟨xc, rfl, ho, hx, hb⟩
        have O11 := Lib.hid ho
        have L11 := Lib.hid (show w.heap.size ≤ xc from Nat.le_trans A10.out.b.size hx)
        have A11 := Lib.hid (A10.out.below hb)
        have Q11 := Lib.hid (Q10.out.below hb)
        have BB11 := Lib.hid hb
        have z0 : w11.cell? ⟨qb, 0, none⟩ = some (.int .i64 0) := Q11.out.at_ 0
        have z1 : w11.cell? ⟨qb, 1, none⟩ = some (.int .i64 1) := Q11.out.at_ 1
        have z2 : w11.cell? ⟨qb, 2, none⟩ = some (.int .i64 2) := Q11.out.at_ 2
        have z3 : w11.cell? ⟨qb, 3, none⟩ = some (.int .i64 4) := Q11.out.at_ 3
        clear ho hx hb)
     | (go_at_call 26
        refine (oSteal_any 0 1 2 4 _).mono ?_
        rintro e w12 ⟨xt, rfl, ho, hx, hb⟩
        have O12 := Lib.hid ho
        have L12 := Lib.hid (show w.heap.size ≤ xt from Nat.le_trans A11.out.b.size hx)
        have A12 := Lib.hid (A11.out.below hb)
        have Q12 := Lib.hid (Q11.out.below hb)
        have BB12 := Lib.hid hb
        have x0 : w12.cell? ⟨qb, 0, none⟩ = some (.int .i64 0) := Q12.out.at_ 0
        have x1 : w12.cell? ⟨qb, 1, none⟩ = some (.int .i64 1) := Q12.out.at_ 1
        have x2 : w12.cell? ⟨qb, 2, none⟩ = some (.int .i64 2) := Q12.out.at_ 2
        have x3 : w12.cell? ⟨qb, 3, none⟩ = some (.int .i64 4) := Q12.out.at_ 3
        clear ho hx hb))
  have O10b := Lib.hid ((O10.out.below BB11.out).below BB12.out)
  have O9b := Lib.hid (((O9.out.below BB10.out).below BB11.out).below BB12.out)
  have O11b := Lib.hid (O11.out.below BB12.out)
  have KB0 := Lib.hid (show KB w p m k g b xp xs xc xt s (fra1 0 0 1 2 4 9) false false (fraC 6 b 0 1 2 4) false (fra1 2 0 1 2 4 0) false w12 from
    ⟨A12.out, ⟨0, 0, O9b.out, fun _ => ⟨rfl, rfl⟩⟩, ⟨0, 0, O10b.out, fun _ => ⟨rfl, rfl⟩⟩, ⟨0, 0, O11b.out, fun _ => ⟨rfl, rfl⟩⟩, ⟨0, 0, O12.out, fun _ => ⟨rfl, rfl⟩⟩, L9.out, L10.out, L11.out, L12.out⟩)
  have BK0 := Lib.hid (show BK K b s (fra1 0 0 1 2 4 9) false false (fraC 6 b 0 1 2 4) false (fra1 2 0 1 2 4 0) false from
    ⟨HS.out.1, A12.out.n, .inl HS.out.2.1, HS.out.2.2.1, HS.out.2.2.2, ⟨rfl, rfl, rfl, rfl⟩, fun _ => ⟨pushOk1 4 (by omega) 9, fun h => absurd rfl h⟩, ⟨rfl, rfl, rfl, rfl⟩, fun _ => ⟨⟨.inl rfl, Int.le_refl _, Int.le_refl _, by decide⟩, HS.out.2.1, fun _ => rfl⟩, ⟨rfl, rfl, rfl, rfl⟩, fun _ => clearOk1 6 b 4 (by omega), fun h => (by cases h), fun h => (by cases h)⟩)
  clear O9 O10 O11 O12 O9b O10b O11b D8 E8 A9 A10 A11 A12 Q9 Q10 Q11 Q12 BB9 BB10 BB11 BB12 L9 L10 L11 L12 HS y0 y1 y2 y3 u0 u1 u2 u3 v0 v1 v2 v3 z0 z1 z2 z3 x0 x1 x2 x3
  go_wp2_with fail
  (with_reducible refine (awake12_any _).mono ?_)
  rintro e w13 ⟨rfl, hb13⟩
  have h13 := KB0.out
  have KB1 := Lib.hid (show KB w p m k g b xp xs xc xt s (fra1 0 0 1 2 4 9) false false (fraC 6 b 0 1 2 4) false (fra1 2 0 1 2 4 0) false w13 from by
    have hf : Fr [] w12 w13 := Fr.old hb13
    exact ⟨h13.e.below hb13, h13.hp.fr hf (by simp), h13.hs.fr hf (by simp), h13.hc.fr hf (by simp), h13.ht.fr hf (by simp), h13.lo⟩)
  clear hb13 h13 KB0
  go_wp2_with fail
  go_loopw [19, 18] (fun i pv wr => KL w p m k g K b xp xs xc xt L i pv wr) (fun i _ _ => L + 40 - (intOf i).toNat)
  case atStart => exact ⟨0, s, _, _, _, _, _, _, _, by omega, rfl, rfl, KB1.out, BK0.out, due0 L 0 5 (by decide) (by decide) (by decide), due0 L 1 4 (by decide) (by decide) (by decide), due0 L 2 4 (by decide) (by decide) (by decide)⟩
  case round =>
    clear KB1 BK0
    obtain ⟨j, s, fp, dp, ds, fc, dc, fs, dt, hj, rfl, rfl, hkb, hbk, hd0, hd1, hd2⟩ := hrel
    have KBH := Lib.hid hkb
    have BKH := Lib.hid hbk
    have DUE := Lib.hid (And.intro hd0 (And.intro hd1 hd2))
    clear hkb hbk hd0 hd1 hd2
    by_cases hlt : j < L + 40
    case neg =>
      obtain rfl : j = L + 40 := by omega
      have e1 := wkP_end DUE.out.1.last (fun h => by have := (BKH.out.pl h).1.1; omega)
      have e2 := wkO_end DUE.out.2.1.last (fun h => by have := (BKH.out.cl h).1; omega)
      have e3 := wkO_end DUE.out.2.2.last (fun h => by have := (BKH.out.sl h).1.1; omega)
      obtain ⟨rfl, rfl⟩ := e1
      subst e2
      subst e3
      obtain ⟨M, hM1, hM2, hM3, hM4⟩ := BKH.out.last HC.out.1
      have KZ := Lib.hid (show ∀ u : World, Calls Try.prog 27 #[.int .u64 (s.old 1), .int .u64 (s.old 0)] u (fun e w' => e = .returned (.int .i64 (M : Int)) ∧ u = w') from fun u => hM1 ▸ size_any (s.old 1) (s.old 0) u)
      have E7 := Lib.hid (KBH.out.e.e.drewN 1)
      have d20 : wr.drew.cell? ⟨p, 20, none⟩ = some (.pointer (some ⟨m, 0, none⟩)) := E7.out.at20
      have B7 := Lib.hid (below_drew KBH.out.e.b)
      have HM := Lib.hid hM4
      have hK1 := HC.out.1
      have g1 : (K : Int) ≤ (M : Int) := by omega
      have g2 : (M : Int) ≤ (K : Int) + 1 := by omega
      have hL1 : L ≤ 100 := by have := HC.out.2.2; omega
      clear KBH BKH DUE hM1 hM4
      go_wp2_with fail
      go_region_held3 (fun w' => w'.cell? ⟨p, 20, none⟩ = some (.pointer (some ⟨m, 0, none⟩))) ((first | exact d20 | go_keep))
        (first
         | (go_at_call 22
            refine (peek_any E7.out.mem _).mono ?_
            rintro e u ⟨rfl, rfl⟩)
         | (go_at_call 27
            refine (KZ.out _).mono ?_
            rintro e u ⟨rfl, rfl⟩))
      by_cases hM0 : M = 0
      · have g3 : ((M : Int) == 0) = true := by simp; omega
        have HM0 := Lib.hid hM0
        clear HM hM0
        go_wp2_with fail
        go_ret
        exact ⟨rfl, B7.out⟩
      · have g3 : ((M : Int) == 0) = false := by simp; omega
        have h6 : s.old 6 = maskS b := by
          rcases HM.out with e | e
          · exact absurd e hM0
          · exact e
        rw [maskS_nat b HC.out.2.1] at h6
        have HB := Lib.hid (fun u => bit_any (2 ^ b) b (pow_lt64 b HC.out.2.1) HC.out.2.1 u)
        have HBB := Lib.hid (bitB_pow b)
        have HE6 := Lib.hid h6
        clear h6 hM0
        generalize (2 ^ b : Nat) = P2 at *
        go_wp2_with fail
        (with_reducible refine (peek_any E7.out.mem 6).mono ?_)
        rintro e u ⟨rfl, rfl⟩
        rw [HE6.out]
        go_wp2_with fail
        (with_reducible refine (HB.out _).mono ?_)
        rintro e u ⟨rfl, rfl⟩
        rw [HBB.out]
        go_wp2_with fail
        go_ret
        exact ⟨rfl, B7.out⟩
    have hlt2 : (j : Int) < (L : Int) + 40 := by omega
    have hjs : j ≤ 140 := by have := HC.out; omega
    have hm3 : (j : Int) % 3 = ((j % 3 : Nat) : Int) := by omega
    go_upto_if 90 with fail
    go_cut [20] from 78 to 121 (fun v wx => wx = wr ∧ ∃ c : Nat, v = .int .i64 c ∧ c < 3 ∧ (L ≤ j → j % 3 = c))
    case first =>
      by_cases hjl : j < L
      · obtain ⟨x0, rfl, hx0, hc0, hz0, hz1⟩ := (HL.out.below KBH.out.e.b).2.2 j hjl
        generalize lz.getD j 0 = z at *
        have hjl2 : (j : Int) < (L : Int) := by omega
        obtain ⟨c, hc, hc3⟩ : ∃ c : Nat, z % 3 = (c : Int) ∧ c < 3 := ⟨(z % 3).toNat, by omega, by omega⟩
        have hj0 : (0 : Int) ≤ (j : Int) := by omega
        clear hx0
        go_wp2_with fail
        go_meet
        case rel => exact ⟨rfl, c, rfl, hc3, fun h => by omega⟩
      · have hjl2 : decide ((j : Int) < (L : Int)) = false := decide_eq_false (by omega)
        go_wp2_with fail
        go_meet
        case rel => exact ⟨rfl, j % 3, rfl, by omega, fun _ => rfl⟩
    case rest =>
    obtain ⟨rfl, c, rfl, hc3, hcj⟩ := hcut
    have HCJ := Lib.hid hcj
    clear hcj hm3
    have hcc : c = 0 ∨ c = 1 ∨ c = 2 := by omega
    clear hc3
    rcases hcc with rfl | rfl | rfl
    · cases dp with
      | false =>
        obtain ⟨cd, vl, ho, hz⟩ := KBH.out.hp
        obtain ⟨rfl, rfl⟩ := hz rfl
        have km := meth_step_pusher xp
        have ka := ahead_step_pusher xp
        have hok := (BKH.out.pl rfl).1
        have HST := Lib.hid (pusher_any KBH.out.e.e ho hok.1 hok.2.1 hok.2.2.2)
        have HBP := Lib.hid (BKH.out.push HC.out.1)
        have HLN := Lib.hid hok
        clear ho hz hok
        go_wp2_with fail
        (with_reducible refine HST.out.mono ?_)
        rintro e w14 ⟨rfl, hp, hb, hf⟩
        rw [← (push_keeps.q s fp).1] at hb
        have HK2 := Lib.hid (KBH.out.push (fp' := (pushS s fp).2.1) (dp' := (pushS s fp).2.2.dn) hp hf (push_keeps.n _ _ BKH.out.nn HLN.out) ⟨_, _, hb, fun h => push_keeps.z s fp h⟩)
        clear hp hb hf HST km ka
        generalize hdn : (pushS s fp).2.2.dn = dn at *
        go_wp2_with fail
        go_roundw
        case rel => exact ⟨j + 1, _, _, dn, ds, fc, dc, fs, dt, by omega, by go_num, rfl, HK2.out, HBP.out.1, DUE.out.1.own (by omega) (fun h => by have := HCJ.out h; omega) (wkP_push HBP.out.2.1 (by have := HLN.out.1; omega)), DUE.out.2.1.other (by omega) (fun h => by have := HCJ.out h; omega), DUE.out.2.2.other (by omega) (fun h => by have := HCJ.out h; omega)⟩
        case measure => simp [intOf]; omega
      | true =>
        have km := meth_step_setter xs
        have ka := ahead_step_setter xs
        cases ds with
        | false =>
          obtain ⟨cd, vl, ho, hz⟩ := KBH.out.hs
          obtain ⟨rfl, rfl⟩ := hz rfl
          have HST := Lib.hid (setter_any (f := fraS 6 b) KBH.out.e.e ho rfl)
          have HBP := Lib.hid (BKH.out.set HC.out.2.1 (f := fraS 6 b) rfl rfl)
          clear ho hz
          go_wp2_with fail
          (with_reducible refine HST.out.mono ?_)
          rintro e w14 ⟨rfl, hp, hb, hf⟩
          have HK2 := Lib.hid (KBH.out.set (ds' := true) hp hf (set_keeps.n _ _ BKH.out.nn (setOk1 6 b)) ⟨_, _, hb, fun h => by cases h⟩)
          clear hp hb hf HST km ka
          go_wp2_with fail
          go_roundw
          case rel => exact ⟨j + 1, _, fp, true, true, fc, dc, fs, dt, by omega, by go_num, rfl, HK2.out, HBP.out, DUE.out.1.own (by omega) (fun h => by have := HCJ.out h; omega) (.inr rfl), DUE.out.2.1.other (by omega) (fun h => by have := HCJ.out h; omega), DUE.out.2.2.other (by omega) (fun h => by have := HCJ.out h; omega)⟩
          case measure => simp [intOf]; omega
        | true =>
          obtain ⟨cd, vl, ho, hz⟩ := KBH.out.hs
          have HST := Lib.hid (setter_over (f := fraS 6 b) ho (.pointer (some ⟨p, 0, none⟩)))
          clear ho hz
          go_wp2_with fail
          (with_reducible refine HST.out.mono ?_)
          rintro e w14 ⟨rfl, rfl⟩
          clear HST km ka
          go_wp2_with fail
          go_roundw
          case rel => exact ⟨j + 1, s, fp, true, true, fc, dc, fs, dt, by omega, by go_num, rfl, KBH.out, BKH.out, DUE.out.1.own (by omega) (fun h => by have := HCJ.out h; omega) (.inr rfl), DUE.out.2.1.other (by omega) (fun h => by have := HCJ.out h; omega), DUE.out.2.2.other (by omega) (fun h => by have := HCJ.out h; omega)⟩
          case measure => simp [intOf]; omega
    · have km := meth_step_clearer xc
      have ka := ahead_step_clearer xc
      cases dc with
      | false =>
        obtain ⟨cd, vl, ho, hz⟩ := KBH.out.hc
        obtain ⟨rfl, rfl⟩ := hz rfl
        have hok := BKH.out.cl rfl
        have HST := Lib.hid (clearer_any KBH.out.e.e ho hok.1)
        have HBP := Lib.hid (BKH.out.clear HC.out.1 HC.out.2.1)
        have HLN := Lib.hid hok
        clear ho hz hok
        go_wp2_with fail
        (with_reducible refine HST.out.mono ?_)
        rintro e w14 ⟨rfl, hp, hb, hf⟩
        have HK2 := Lib.hid (KBH.out.clear (fc' := (clearS s fc).2.1) (dc' := (clearS s fc).2.2.dn) hp hf (clear_keeps.n _ _ BKH.out.nn HLN.out) ⟨_, _, hb, fun h => clear_keeps.z s fc h⟩)
        clear hp hb hf HST km ka
        generalize hdn : (clearS s fc).2.2.dn = dn at *
        go_wp2_with fail
        go_roundw
        case rel => exact ⟨j + 1, _, fp, dp, ds, _, dn, fs, dt, by omega, by go_num, rfl, HK2.out, HBP.out.1, DUE.out.1.other (by omega) (fun h => by have := HCJ.out h; omega), DUE.out.2.1.own (by omega) (fun h => by have := HCJ.out h; omega) (wkO_step HBP.out.2 (by have := HLN.out.1; omega)), DUE.out.2.2.other (by omega) (fun h => by have := HCJ.out h; omega)⟩
        case measure => simp [intOf]; omega
      | true =>
        obtain ⟨cd, vl, ho, hz⟩ := KBH.out.hc
        have HST := Lib.hid (clearer_over (f := fc) ho (.pointer (some ⟨p, 0, none⟩)))
        clear ho hz
        go_wp2_with fail
        (with_reducible refine HST.out.mono ?_)
        rintro e w14 ⟨rfl, rfl⟩
        clear HST km ka
        go_wp2_with fail
        go_roundw
        case rel => exact ⟨j + 1, s, fp, dp, ds, fc, true, fs, dt, by omega, by go_num, rfl, KBH.out, BKH.out, DUE.out.1.other (by omega) (fun h => by have := HCJ.out h; omega), DUE.out.2.1.own (by omega) (fun h => by have := HCJ.out h; omega) (.inr rfl), DUE.out.2.2.other (by omega) (fun h => by have := HCJ.out h; omega)⟩
        case measure => simp [intOf]; omega
    · have km := meth_step_stealer xt
      have ka := ahead_step_stealer xt
      cases dt with
      | false =>
        obtain ⟨cd, vl, ho, hz⟩ := KBH.out.ht
        obtain ⟨rfl, rfl⟩ := hz rfl
        have hok := (BKH.out.sl rfl).1
        have HST := Lib.hid (stealer_any KBH.out.e.e ho hok.1 hok.2.2.1 hok.2.2.2)
        have HBP := Lib.hid (BKH.out.steal HC.out.1)
        have HLN := Lib.hid hok
        clear ho hz hok
        go_wp2_with fail
        (with_reducible refine HST.out.mono ?_)
        rintro e w14 ⟨rfl, hp, hb, hf⟩
        have HK2 := Lib.hid (KBH.out.steal (fs' := (stealS s fs).2.1) (dt' := (stealS s fs).2.2.dn) hp hf (steal_keeps.n _ _ BKH.out.nn HLN.out) ⟨_, _, hb, fun h => steal_keeps.z s fs h⟩)
        clear hp hb hf HST km ka
        generalize hdn : (stealS s fs).2.2.dn = dn at *
        go_wp2_with fail
        go_roundw
        case rel => exact ⟨j + 1, _, fp, dp, ds, fc, dc, _, dn, by omega, by go_num, rfl, HK2.out, HBP.out.1, DUE.out.1.other (by omega) (fun h => by have := HCJ.out h; omega), DUE.out.2.1.other (by omega) (fun h => by have := HCJ.out h; omega), DUE.out.2.2.own (by omega) (fun h => by have := HCJ.out h; omega) (wkO_step HBP.out.2 (by have := HLN.out.1; omega))⟩
        case measure => simp [intOf]; omega
      | true =>
        obtain ⟨cd, vl, ho, hz⟩ := KBH.out.ht
        have HST := Lib.hid (stealer_over (f := fs) ho (.pointer (some ⟨p, 0, none⟩)))
        clear ho hz
        go_wp2_with fail
        (with_reducible refine HST.out.mono ?_)
        rintro e w14 ⟨rfl, rfl⟩
        clear HST km ka
        go_wp2_with fail
        go_roundw
        case rel => exact ⟨j + 1, s, fp, dp, ds, fc, dc, fs, true, by omega, by go_num, rfl, KBH.out, BKH.out, DUE.out.1.other (by omega) (fun h => by have := HCJ.out h; omega), DUE.out.2.1.other (by omega) (fun h => by have := HCJ.out h; omega), DUE.out.2.2.own (by omega) (fun h => by have := HCJ.out h; omega) (.inr rfl)⟩
        case measure => simp [intOf]; omega
end Go.Proofs.Ytllllbepnnpeeaa
