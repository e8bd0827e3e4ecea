/-
  workstealmatch.Alone of any machine, given what a step of it does: the environment's state is of a type X, the machine's of a type M.
-/
import Derived.Test.YtgipddeldddbnaaMgAP
import Derived.LoopTactic
import Derived.OwnWalk
import Derived.Shelf.Abstract
namespace Go.Proofs.Ytgipddeldddbnaa
open Go Go.RowKit Go.Shelf
set_option linter.unusedSimpArgs false
set_option linter.unusedVariables false

/-- The steps of a machine until it is done. -/
inductive RunX {X M : Type} (stp : X → M → X × M × Res) : X → M → X → Res → Nat → Prop
  | last {s : X} {x : M} : (stp s x).2.2.dn = true → RunX stp s x (stp s x).1 (stp s x).2.2 1
  | cons {s s' : X} {x : M} {r : Res} {n : Nat} : (stp s x).2.2.dn = false → RunX stp (stp s x).1 (stp s x).2.1 s' r n → RunX stp s x s' r (n + 1)
/-- What a step of the machine at block q gives. -/
def GStep {X M : Type} (B : Nat) (I : Nat → World → X → Prop) (V : World → M → Prop) (q : Nat) (n : Nat) (w : World) (y : X × M × Res) (e : Ending) (w' : World) : Prop :=
  e = .returned (.bool y.2.2.dn) ∧ I (n + 1) w' y.1 ∧ (y.2.2.dn = true → ∃ ty post f, LB w' q ty post f y.2.2.cd y.2.2.vl) ∧ (y.2.2.dn = false → V w' y.2.1) ∧ Below B w w'
/-- What Alone gives. -/
def GAlone {X : Type} (B : Nat) (I : Nat → World → X → Prop) (w : World) (s' : X) (r : Res) (N : Nat) (e : Ending) (w' : World) : Prop :=
  e = .returned (.tuple #[.int .i64 r.cd, .int .i64 r.vl, .int .i64 N]) ∧ I N w' s' ∧ Below B w w'
/-- What its loop keeps. -/
def AloGR {X M : Type} (B : Nat) (I : Nat → World → X → Prop) (V : World → M → Prop) (stp : X → M → X × M × Res) (w : World) (s' : X) (r : Res) (N : Nat) (v : Value) (wr : World) : Prop :=
  ∃ (j : Nat) (s : X) (x : M) (n : Nat), v = .int .i64 j ∧ I j wr s ∧ V wr x ∧ RunX stp s x s' r n ∧ n + j = N ∧ Below B w wr
set_option maxRecDepth 100000 in
set_option maxHeartbeats 4000000 in
theorem alone_gen {X M : Type} {B : Nat} {I : Nat → World → X → Prop} {V : World → M → Prop} {stp : X → M → X × M × Res} {q p : Nat} {pt : TypeId} {fs : Nat} {w : World} {s s' : X} {x : M} {r : Res} {N most : Nat}
    (km : ∀ w : World, (method 243 pt (.pointer (some ⟨q, 0, none⟩)) "Step").run Try.prog w = .ok (fs, .pointer (some ⟨q, 0, none⟩)) w)
    (ka : ∀ w : World, (nilAhead 243 pt (.pointer (some ⟨q, 0, none⟩)) "Step").run Try.prog w = .ok (some false) w)
    (kr : ∀ w : World, (method 243 pt (.pointer (some ⟨q, 0, none⟩)) "Result").run Try.prog w = .ok (55, .pointer (some ⟨q, 0, none⟩)) w)
    (kb : ∀ w : World, (nilAhead 243 pt (.pointer (some ⟨q, 0, none⟩)) "Result").run Try.prog w = .ok (some false) w)
    (he : Enters Try.prog fs)
    (hI : ∀ j w n s, I j w s → I j (w.drewN n) s)
    (HS : ∀ j w s x, j < most → I j w s → V w x → Calls Try.prog fs #[.pointer (some ⟨q, 0, none⟩), .pointer (some ⟨p, 0, none⟩)] w (GStep B I V q j w (stp s x)))
    (h0 : I 0 w s) (h1 : V w x) (hr : RunX stp s x s' r N) (hN : N ≤ most) (hm : most ≤ 1000) :
    Calls Try.prog 7 #[.pointer (some ⟨p, 0, none⟩), .iface pt (.pointer (some ⟨q, 0, none⟩)), .int .i64 most] w (GAlone B I w s' r N) := by
  have HST := Lib.hid (show AloGR B I V stp w s' r N (.int .i64 0) w from ⟨0, s, x, N, rfl, h0, h1, hr, rfl, Below.refl _ _⟩)
  clear h0 h1 hr
  have HM := Lib.hid (And.intro hN hm)
  have HSS := Lib.hid HS
  have HII := Lib.hid hI
  have he' := fun (args : Array Value) (w : World) => he args w
  clear HS hI he
  go_enter Try.func7, Try.ntmps7
  go_wp2_with fail
  go_loopw [8] (fun i wr => AloGR B I V stp w s' r N i wr) (fun i _ => most - (intOf i).toNat)
  case atStart => exact HST.out
  case round =>
    clear HST
    obtain ⟨j, s, x, n, rfl, h0, h1, hr, hM, hb⟩ := hrel
    have hj : j < most := by
      have h1 : 1 ≤ n := by cases hr <;> omega
      have := HM.out.1
      omega
    have ej : wrap64 ((j : Int) + 1) = ((j + 1 : Nat) : Int) := by have := HM.out; unfold wrap64; omega
    have hlt : (j : Int) < (most : Int) := by omega
    have HC := Lib.hid (HSS.out _ _ _ _ hj h0 h1)
    have HB := Lib.hid hb
    have HR := Lib.hid (And.intro hr hM)
    have HJ := Lib.hid hj
    clear h0 h1 hr hM hb hj HSS
    obtain ⟨y, hy⟩ : ∃ y, stp s x = y := ⟨_, rfl⟩
    have HY := Lib.hid hy
    rw [hy] at HC
    clear hy
    cases hdn : y.2.2.dn with
    | true =>
      go_wp2_with fail
      (with_reducible refine HC.out.mono ?_)
      rintro e w1 ⟨rfl, hi, hd, _, hb⟩
      obtain ⟨ty, post, f, hl⟩ := hd hdn
      have L1 := Lib.hid hl
      have I1 := Lib.hid hi
      have B1 := Lib.hid (HB.out.trans hb)
      rw [hdn]
      have HDN := Lib.hid hdn
      clear hl hi hb hd hdn
      go_wp2_with fail
      (with_reducible refine (lresult_any L1.out).mono ?_)
      rintro e w2 ⟨rfl, nd, rfl⟩
      go_wp2_with fail
      go_ret3
      have hr := HR.out.1
      cases hr with
      | last _ =>
        have hN := HR.out.2
        have e1 : (j : Int) + 1 = (N : Int) := by omega
        have ey := HY.out
        rw [ey]
        have e2 : j + 1 = N := by omega
        refine ⟨?_, e2 ▸ HII.out _ _ _ _ I1.out, ⟨B1.out.os, B1.out.tape, B1.out.output, B1.out.size, B1.out.block⟩⟩
        show Ending.returned (.tuple #[.int .i64 y.2.2.cd, .int .i64 y.2.2.vl, .int .i64 ((j : Int) + 1)]) = _
        rw [e1]
      | cons h _ =>
        exfalso
        have h2 := HDN.out
        rw [HY.out] at h
        rw [h] at h2
        cases h2
    | false =>
      go_wp2_with fail
      (with_reducible refine HC.out.mono ?_)
      rintro e w1 ⟨rfl, hi, _, hv, hb⟩
      have I1 := Lib.hid (And.intro hi (hv hdn))
      have B1 := Lib.hid (HB.out.trans hb)
      have HDN := Lib.hid hdn
      rw [hdn]
      clear hi hv hb hdn
      go_wp2_with fail
      go_roundw
      case rel =>
        have hr := HR.out.1
        cases hr with
        | last h =>
          exfalso
          have h2 := HDN.out
          rw [HY.out] at h
          rw [h] at h2
          cases h2
        | cons h h3 =>
          rw [HY.out] at h3
          refine ⟨j + 1, y.1, y.2.1, _, by go_num, I1.out.1, I1.out.2, h3, ?_, B1.out⟩
          have := HR.out.2
          omega
      case measure => simp [intOf]; have := HJ.out; omega
end Go.Proofs.Ytgipddeldddbnaa
