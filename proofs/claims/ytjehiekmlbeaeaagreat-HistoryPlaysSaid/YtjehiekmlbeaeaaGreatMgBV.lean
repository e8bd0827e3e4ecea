/-
  The walk of the statement HistoryPlays: it returns true.
  Slices of uint64 that a call reads. No function is named.
  Slices of uint64 and of int (with their ranges) that came in, opened.
-/
import Derived.Test.YtjehiekmlbeaeaaGreatMgAZ
import Derived.Test.YtjehiekmlbeaeaaGreatMgBH
import Derived.Test.YtjehiekmlbeaeaaGreatRpG
import Derived.LoopTactic
import Derived.OwnWalk
import Derived.Deep.Cut
import Derived.Deep.CutRange
import Derived.Test.YtjehiekmlbeaeaaGreatMgAA
import Derived.Test.YtjehiekmlbeaeaaGreatMgAB
import Derived.Test.YtjehiekmlbeaeaaGreatMgAW
import Derived.ChangeSlices
import Derived.Laws.IdiomArrays
namespace Go.Proofs.YtjehiekmlbeaeaaGreat
open Go Go.RowKit Go.Shelf
set_option linter.unusedSimpArgs false
set_option linter.unusedVariables false

theorem PlyIn.below {w w' : World} {a b : Option Addr} {N M n : Nat} {plan : List (List ActR)} {picks : List Int} (h : PlyIn w a b N M plan picks n) (hb : Below w.heap.size w w') : PlyIn w' a b N M plan picks n :=
  ⟨fun i hi => by
    obtain ⟨x, va, vc, e, hx, hc, hg, hl⟩ := h.pl i hi
    exact ⟨x, va, vc, e, Nat.lt_of_lt_of_le hx hb.size, (hb.cell (by rw [block_add]; exact hx)).trans hc, hg.below hb, hl⟩, h.ln, h.hN, h.ps.below hb, h.hM, h.pi, h.pr, h.td, h.ct⟩
theorem PlyIn.rly {w : World} {a b : Option Addr} {N M n : Nat} {plan : List (List ActR)} {picks : List Int} (h : PlyIn w a b N M plan picks n) : RlyIn w a b N M plan picks n :=
  ⟨h.pl, h.ln, h.hN, h.ps, h.hM, h.pi, h.pr, h.td, h.ct⟩
theorem cap_nat (z : Int) : ∃ C : Nat, min (max z 1) 64 = (C : Int) ∧ (C : Int) ≤ 64 := ⟨(min (max z 1) 64).toNat, by omega, by omega⟩

set_option maxRecDepth 100000 in
set_option maxHeartbeats 16000000 in
theorem hplays_law {w : World} {a ra pa : Option Addr} {n rn pn : Nat} {plan : List (List ActR)} {rz pz : List Int} (c rc pc : Nat) (ca : Int) (near : Bool) (h : plan.length = n ∧ n ≤ maxLen ∧ CamePl w a plan) (hr : InInts w ra rn rz ∧ ∀ x, x ∈ rz → -9223372036854775808 ≤ x ∧ x ≤ 9223372036854775807) (hp : InInts w pa pn pz ∧ ∀ x, x ∈ pz → -9223372036854775808 ≤ x ∧ x ≤ 9223372036854775807) :
    Calls Tryz.prog 4 #[.int .i64 ca, .slice a n c, .slice ra rn rc, .slice pa pn pc, .bool near] w fun e w' => e = .returned (.bool true) ∧ Below w.heap.size w w' := by
  have hmr := hr.1.2.1
  have hmp := hp.1.2.1
  unfold maxLen at hmr hmp
  have HR := Lib.hid hr
  have HPK := Lib.hid hp
  have HPL := Lib.hid h
  clear hr hp h
  obtain ⟨sm, hsm⟩ : ∃ sm, smallB plan = sm := ⟨_, rfl⟩
  have HSM := Lib.hid hsm
  have hs0 := small_any (c := c) HPL.out.2.2 HPL.out.1 HPL.out.2.1
  rw [hsm] at hs0
  have HS0 := Lib.hid hs0
  clear hsm hs0
  obtain ⟨sb, hsb⟩ : ∃ sb, (decide ((rn : Int) ≤ 400) && decide ((pn : Int) ≤ 400)) = sb := ⟨_, rfl⟩
  have HSB := Lib.hid hsb
  clear hsb
  have hX := Blk.made w 60 #[.slice ra rn rc, .slice pa pn pc]
  have HS := Lib.hid (short2_any hX (by omega) (by omega))
  rw [HSB.out] at HS
  have B1 := Lib.hid (below_one w (.cells #[.slice ra rn rc, .slice pa pn pc] 60))
  clear hX
  go_enter Tryz.func4, Tryz.ntmps4
  go_wp2_with fail
  (with_reducible refine HS0.out.mono ?_)
  rintro e w1 ⟨rfl, rfl⟩
  cases sm with
  | false =>
    go_wp2
    go_ret
    exact ⟨rfl, Below.refl _ _⟩
  | true =>
  go_wp2_with fail
  (with_reducible refine HS.out.mono ?_)
  rintro e w1 ⟨rfl, rfl⟩
  generalize w.alloc (.cells #[.slice ra rn rc, .slice pa pn pc] 60) = W1 at *
  clear HS HS0
  cases sb with
  | false =>
    go_wp2
    go_ret
    exact ⟨rfl, B1.out⟩
  | true =>
  have HLN := Lib.hid (show rn ≤ 400 ∧ pn ≤ 400 by
    have := HSB.out
    simp only [Bool.and_eq_true, decide_eq_true_eq] at this
    omega)
  clear HSB
  have hpr : ∀ i, i < pn → -9223372036854775808 ≤ pz.getD i 0 ∧ pz.getD i 0 ≤ 9223372036854775807 := fun i hi => by
    have hl := HPK.out.1.1
    rw [List.getD_eq_getElem?_getD, List.getElem?_eq_getElem (by omega)]
    exact HPK.out.2 _ (List.getElem_mem _)
  have HPR := Lib.hid hpr
  clear hpr
  go_upto_if 21 with fail
  go_cut [0, 1] from 21 to 26 (fun v0 v1 wx => ∃ (z : Int) (C : Nat) (b : Option Addr) (N d : Nat) (P : List (List ActR)), v0 = .int .i64 z ∧ v1 = .slice b N d ∧ min (max z 1) 64 = (C : Int) ∧ PlyIn wx b pa N pn P pz (sizeS (2 + C)) ∧ Below w.heap.size w wx)
  case first =>
    cases near with
    | false =>
      go_wp2_with fail
      go_meet
      case rel =>
        obtain ⟨C, hC, hC2⟩ := cap_nat ca
        have hsum := plan_sums HSM.out (St.new (sizeS (2 + (C : Int))))
        have h12 := ((smallB_iff plan).1 HSM.out).1
        have := HLN.out
        exact ⟨ca, C, a, n, c, plan, rfl, rfl, hC, ⟨(HPL.out.2.2.below B1.out).inPl HSM.out, HPL.out.1, by have := HPL.out.1; omega, HPK.out.1.below B1.out, by omega, HPL.out.2.2.planIn, HPR.out, by omega, by omega⟩, B1.out⟩
    | true =>
      have hpl0 := plan_any (n := 40) (c := rc) (HR.out.1.below B1.out) HLN.out.1 (by omega)
      rw [show ((40 : Nat) : Int) = 40 from rfl] at hpl0
      have HPA := Lib.hid hpl0
      clear hpl0
      go_wp2_with fail
      (with_reducible refine HPA.out.mono ?_)
      rintro e w3 ⟨ob, K, P, V, cnt, rfl, hpo, hok, hK1, hK2, hcnt⟩
      have B3 := Lib.hid (B1.out.trans (hpo.b.mono B1.out.size))
      have PO3 := Lib.hid hpo
      have PK := Lib.hid (And.intro hok (And.intro (And.intro hK1 hK2) hcnt))
      clear hpo hok hK1 hK2 hcnt HPA
      go_wp2_with fail
      have I0 := Lib.hid (ints_lone w3 ca)
      have hb0 := below_one w3 (.cells #[.int .i64 ca] 3)
      (with_reducible refine (keepnum0 I0.out 1 6 (by omega) (by omega)).mono ?_)
      rintro e u0 ⟨y, hy, rfl, nd0, rfl⟩
      have hb2 := hb0.trans ((below_drewN (w3.alloc (.cells #[.int .i64 ca] 3)) nd0).mono hb0.size)
      have B4 := Lib.hid (B3.out.trans (hb2.mono B3.out.size))
      have PO4 := Lib.hid (PO3.out.below hb2)
      clear I0 hb0 hb2 B3 PO3
      generalize (w3.alloc (.cells #[.int .i64 ca] 3)).drewN nd0 = W4 at *
      go_wp2_with fail
      go_meet
      case rel =>
        obtain ⟨C, hC, hC2⟩ := cap_nat (y : Int)
        obtain ⟨k1, k2, k3, _⟩ := PK.out.1.first (St.new (sizeS (2 + (C : Int))))
        have := PK.out.2
        have := HLN.out
        exact ⟨y, C, some ⟨ob, 0, none⟩, K, K, P, rfl, rfl, hC, ⟨PO4.out.inPl PK.out.1 (by omega), PO4.out.lp, by omega, HPK.out.1.below B4.out, by omega, k1, HPR.out, by omega, by omega⟩, B4.out⟩
  case rest =>
  obtain ⟨z, C, b, N, d, P, rfl, rfl, hC, hin, hb⟩ := hcut
  have HIN := Lib.hid hin
  have HB := Lib.hid hb
  have HC := Lib.hid hC
  clear hin hb hC B1
  generalize wc = W5 at *
  go_wp2_with fail
  (with_reducible refine (awake11_any _).mono ?_)
  rintro e w5 ⟨rfl, hb5⟩
  have HIN5 := Lib.hid (HIN.out.below hb5)
  have B5 := Lib.hid (HB.out.trans (hb5.mono HB.out.size))
  clear hb5 HIN HB
  have HP5 := Lib.hid (fun d2 => play_any (c := d) (d := d2) HIN5.out HC.out)
  go_wp2_with fail
  (with_reducible refine (HP5.out _).mono ?_)
  rintro e w6 ⟨v6, r6, rfl, ho6, hpl6, hb6⟩
  have B6 := Lib.hid (B5.out.trans (hb6.mono B5.out.size))
  have HIN6 := Lib.hid (HIN5.out.below hb6)
  have HO6 := Lib.hid (And.intro ho6 hpl6)
  clear ho6 hpl6 hb6 B5 HIN5 HP5
  have HP6 := Lib.hid (fun d2 => rplay_any (c := d) (d := d2) HIN6.out.rly HC.out)
  go_wp2_with fail
  (with_reducible refine (HP6.out _).mono ?_)
  rintro e w7 ⟨v7, r7, rfl, ho7, hpl7, hb7⟩
  obtain rfl : r6 = r7 := Plays.same HO6.out.2 hpl7
  have B7 := Lib.hid (B6.out.trans (hb7.mono B6.out.size))
  obtain ⟨a6, c6, hv6, _, hi6⟩ := (HO6.out.1.below hb7).inG
  obtain ⟨a7, c7, hv7, _, hi7⟩ := ho7.inG
  rw [List.length_map] at hv6 hv7
  have HSA := Lib.hid (opsame_any (a := a6) (b := a7) hi6 hi7 c6 c7)
  subst hv6
  subst hv7
  clear hi6 hi7 ho7 hpl7 hb7 B6 HO6 HIN6 HP6
  go_wp2_with fail
  (with_reducible refine HSA.out.mono ?_)
  rintro e w8 ⟨rfl, dd, rfl⟩
  rw [decide_eq_true (rfl : r6 = r6)]
  go_wp2
  go_ret
  exact ⟨rfl, B7.out.trans ((below_drewN _ _).mono B7.out.size)⟩
end Go.Proofs.YtjehiekmlbeaeaaGreat

namespace Go.Proofs.YtjehiekmlbeaeaaGreat
open Go Go.RowKit

/-- The slice (a, n) reads as the words X. -/
def InW (w : World) (a : Option Addr) (n : Nat) (X : List Int) : Prop :=
  X.length = n ∧ n ≤ maxLen ∧ ∀ i, i < n → ∃ x : Addr, a = some x ∧ x.block < w.heap.size ∧ w.cell? (x.add i) = some (.int .u64 (X.getD i 0))
theorem InW.below {w w' : World} {a : Option Addr} {n : Nat} {X : List Int} (h : InW w a n X) (hb : Below w.heap.size w w') : InW w' a n X :=
  ⟨h.1, h.2.1, fun i hi => by
    obtain ⟨x, e, hx, hc⟩ := h.2.2 i hi
    exact ⟨x, e, Nat.lt_of_lt_of_le hx hb.size, (hb.cell (by rw [block_add]; exact hx)).trans hc⟩⟩
theorem InW.cell {w : World} {x : Addr} {n i : Nat} {X : List Int} (h : InW w (some x) n X) (hi : i < n) : w.cell? (x.add i) = some (.int .u64 (X.getD i 0)) := by
  obtain ⟨y, e, _, hc⟩ := h.2.2 i hi
  cases e
  exact hc
theorem Row.inW {w : World} {g n cap : Nat} {X : List Int} (h : Row w g n cap X) : InW w (some ⟨g, 0, none⟩) n X :=
  ⟨h.len, Nat.le_trans h.le h.max, fun i hi => ⟨_, rfl, h.lt, by
    have e : (⟨g, 0, none⟩ : Addr).add i = ⟨g, i, none⟩ := by unfold Addr.add; split <;> simp_all
    rw [e]
    exact h.cell hi⟩⟩
end Go.Proofs.YtjehiekmlbeaeaaGreat

namespace Go.Proofs.YtjehiekmlbeaeaaGreat
open Go Go.ChangeShapes Go.WideShapes Go.ChangeAt Go.RowKit

set_option maxRecDepth 100000 in
theorem open_wordsW {H : Type} {enc : TypeId × Value → H} {w : World} {base b0 : Nat} {spare : Nat → Bool} {held : Bool} {r : Reach} {v : Value} {d : DataW H} {p : List MemPlace}
    (hv : Value.okWide Tryz.prog w r b0 49 v) (h : DataW.Trod enc Tryz.prog w base spare held 49 v d p) :
    ∃ (a : Option Addr) (n c : Nat) (zs : List Int), v = .slice a n c ∧ (InW w a n zs ∧ ∀ x, x ∈ zs → 0 ≤ x) := by
  obtain ⟨a, n, c, rfl⟩ := okWide_slice Tryz.underlying49 hv
  obtain ⟨fuel, hf⟩ := h
  rcases open_ints Tryz.underlying49 Tryz.underlying50 (by kernel_rfl) hf with ⟨hcs, _⟩ | ⟨x, l, c', zs, hcs, _, hl, hm, hz, _, hcell, hwf⟩
  · simp [Value.cells] at hcs
    obtain ⟨rfl, rfl, rfl⟩ := hcs
    exact ⟨_, _, _, [], rfl, ⟨rfl, by simp, fun i hi => absurd hi (by omega)⟩, by simp⟩
  · simp [Value.cells] at hcs
    obtain ⟨rfl, rfl, rfl⟩ := hcs
    have hnz : n ≤ zs.length := by rw [hz]; split <;> omega
    refine ⟨_, _, _, zs.take n, rfl, ⟨by simp; omega, by omega, fun i hi => ⟨x, rfl, ?_, ?_⟩⟩, fun y hy => ?_⟩
    · have := World.block_lt_of_cell? w _ (hcell i (by omega))
      rwa [show (x.add i).block = x.block by unfold Addr.add; split <;> rfl] at this
    · rw [hcell i (by omega), List.getD_eq_getElem?_getD, List.getD_eq_getElem?_getD, List.getElem?_take, if_pos hi]
    · have := hwf y (List.mem_of_mem_take hy)
      simp only [Lit.wf, Bool.and_eq_true, decide_eq_true_eq] at this
      have h0 : IntKind.u64.min = 0 := rfl
      rw [h0] at this
      exact this.1

set_option maxRecDepth 100000 in
theorem open_intsR {H : Type} {enc : TypeId × Value → H} {w : World} {base b0 : Nat} {spare : Nat → Bool} {held : Bool} {r : Reach} {v : Value} {d : DataW H} {p : List MemPlace}
    (hv : Value.okWide Tryz.prog w r b0 60 v) (h : DataW.Trod enc Tryz.prog w base spare held 60 v d p) :
    ∃ (a : Option Addr) (n c : Nat) (zs : List Int), v = .slice a n c ∧ (InInts w a n zs ∧ ∀ x, x ∈ zs → -9223372036854775808 ≤ x ∧ x ≤ 9223372036854775807) := by
  obtain ⟨a, n, c, rfl⟩ := okWide_slice Tryz.underlying60 hv
  obtain ⟨fuel, hf⟩ := h
  rcases open_ints Tryz.underlying60 Tryz.underlying3 (by kernel_rfl) hf with ⟨hcs, _⟩ | ⟨x, l, c', zs, hcs, _, hl, hm, hz, _, hcell, hwf⟩
  · simp [Value.cells] at hcs
    obtain ⟨rfl, rfl, rfl⟩ := hcs
    exact ⟨_, _, _, [], rfl, ⟨rfl, by simp, fun i hi => absurd hi (by omega)⟩, by simp⟩
  · simp [Value.cells] at hcs
    obtain ⟨rfl, rfl, rfl⟩ := hcs
    have hnz : n ≤ zs.length := by rw [hz]; split <;> omega
    refine ⟨_, _, _, zs.take n, rfl, ⟨by simp; omega, by omega, fun i hi => ⟨x, rfl, ?_, ?_⟩⟩, fun y hy => ?_⟩
    · have := World.block_lt_of_cell? w _ (hcell i (by omega))
      rwa [show (x.add i).block = x.block by unfold Addr.add; split <;> rfl] at this
    · rw [hcell i (by omega), List.getD_eq_getElem?_getD, List.getD_eq_getElem?_getD, List.getElem?_take, if_pos hi]
    · exact i64_in (hwf y (List.mem_of_mem_take hy))
end Go.Proofs.YtjehiekmlbeaeaaGreat
