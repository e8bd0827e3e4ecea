/-
  workstealmatch.Alone of any machine, given what a step of it does: the environment's state is of a type X, the machine's of a type M.
  Package table: its machines alone.
-/
import Derived.Test.YtgipddeldddbnaaGreatMgAM
import Derived.LoopTactic
import Derived.OwnWalk
import Derived.Shelf.Abstract
import Derived.Test.YtgipddeldddbnaaGreatMgBE
namespace Go.Proofs.YtgipddeldddbnaaGreat
open Go Go.RowKit Go.Shelf
set_option linter.unusedSimpArgs false
set_option linter.unusedVariables false

/-- The steps of a machine until it is done. -/
inductive RunX {X M : Type} (stp : X → M → X × M × Res) : X → M → X → Res → Nat → Prop
  | last {s : X} {x : M} : (stp s x).2.2.dn = true → RunX stp s x (stp s x).1 (stp s x).2.2 1
  | cons {s s' : X} {x : M} {r : Res} {n : Nat} : (stp s x).2.2.dn = false → RunX stp (stp s x).1 (stp s x).2.1 s' r n → RunX stp s x s' r (n + 1)
/-- What a step of the machine at block q gives. -/
def GStep {X M : Type} (B : Nat) (I : Nat → World → X → Prop) (V : World → M → Prop) (q : Nat) (n : Nat) (w : World) (y : X × M × Res) (e : Ending) (w' : World) : Prop :=
  e = .returned (.bool y.2.2.dn) ∧ I (n + 1) w' y.1 ∧ (y.2.2.dn = true → ∃ ty post f, LB w' q ty post f y.2.2.cd y.2.2.vl) ∧ (y.2.2.dn = false → V w' y.2.1) ∧ Below B w w'
/-- What Alone gives. -/
def GAlone {X : Type} (B : Nat) (I : Nat → World → X → Prop) (w : World) (s' : X) (r : Res) (N : Nat) (e : Ending) (w' : World) : Prop :=
  e = .returned (.tuple #[.int .i64 r.cd, .int .i64 r.vl, .int .i64 N]) ∧ I N w' s' ∧ Below B w w'
/-- What its loop keeps. -/
def AloGR {X M : Type} (B : Nat) (I : Nat → World → X → Prop) (V : World → M → Prop) (stp : X → M → X × M × Res) (w : World) (s' : X) (r : Res) (N : Nat) (v : Value) (wr : World) : Prop :=
  ∃ (j : Nat) (s : X) (x : M) (n : Nat), v = .int .i64 j ∧ I j wr s ∧ V wr x ∧ RunX stp s x s' r n ∧ n + j = N ∧ Below B w wr
set_option maxRecDepth 100000 in
set_option maxHeartbeats 4000000 in
theorem alone_gen {X M : Type} {B : Nat} {I : Nat → World → X → Prop} {V : World → M → Prop} {stp : X → M → X × M × Res} {q p : Nat} {pt : TypeId} {fs : Nat} {w : World} {s s' : X} {x : M} {r : Res} {N most : Nat}
    (km : ∀ w : World, (method 281 pt (.pointer (some ⟨q, 0, none⟩)) "Step").run Tryz.prog w = .ok (fs, .pointer (some ⟨q, 0, none⟩)) w)
    (ka : ∀ w : World, (nilAhead 281 pt (.pointer (some ⟨q, 0, none⟩)) "Step").run Tryz.prog w = .ok (some false) w)
    (kr : ∀ w : World, (method 281 pt (.pointer (some ⟨q, 0, none⟩)) "Result").run Tryz.prog w = .ok (58, .pointer (some ⟨q, 0, none⟩)) w)
    (kb : ∀ w : World, (nilAhead 281 pt (.pointer (some ⟨q, 0, none⟩)) "Result").run Tryz.prog w = .ok (some false) w)
    (he : Enters Tryz.prog fs)
    (hI : ∀ j w n s, I j w s → I j (w.drewN n) s)
    (HS : ∀ j w s x, j < most → I j w s → V w x → Calls Tryz.prog fs #[.pointer (some ⟨q, 0, none⟩), .pointer (some ⟨p, 0, none⟩)] w (GStep B I V q j w (stp s x)))
    (h0 : I 0 w s) (h1 : V w x) (hr : RunX stp s x s' r N) (hN : N ≤ most) (hm : most ≤ 1000) :
    Calls Tryz.prog 8 #[.pointer (some ⟨p, 0, none⟩), .iface pt (.pointer (some ⟨q, 0, none⟩)), .int .i64 most] w (GAlone B I w s' r N) := by
  have HST := Lib.hid (show AloGR B I V stp w s' r N (.int .i64 0) w from ⟨0, s, x, N, rfl, h0, h1, hr, rfl, Below.refl _ _⟩)
  clear h0 h1 hr
  have HM := Lib.hid (And.intro hN hm)
  have HSS := Lib.hid HS
  have HII := Lib.hid hI
  have he' := fun (args : Array Value) (w : World) => he args w
  clear HS hI he
  go_enter Tryz.func8, Tryz.ntmps8
  go_wp2_with fail
  go_loopw [8] (fun i wr => AloGR B I V stp w s' r N i wr) (fun i _ => most - (intOf i).toNat)
  case atStart => exact HST.out
  case round =>
    clear HST
    obtain ⟨j, s, x, n, rfl, h0, h1, hr, hM, hb⟩ := hrel
    have hj : j < most := by
      have h1 : 1 ≤ n := by cases hr <;> omega
      have := HM.out.1
      omega
    have ej : wrap64 ((j : Int) + 1) = ((j + 1 : Nat) : Int) := by have := HM.out; unfold wrap64; omega
    have hlt : (j : Int) < (most : Int) := by omega
    have HC := Lib.hid (HSS.out _ _ _ _ hj h0 h1)
    have HB := Lib.hid hb
    have HR := Lib.hid (And.intro hr hM)
    have HJ := Lib.hid hj
    clear h0 h1 hr hM hb hj HSS
    obtain ⟨y, hy⟩ : ∃ y, stp s x = y := ⟨_, rfl⟩
    have HY := Lib.hid hy
    rw [hy] at HC
    clear hy
    cases hdn : y.2.2.dn with
    | true =>
      go_wp2_with fail
      (with_reducible refine HC.out.mono ?_)
      rintro e w1 ⟨rfl, hi, hd, _, hb⟩
      obtain ⟨ty, post, f, hl⟩ := hd hdn
      have L1 := Lib.hid hl
      have I1 := Lib.hid hi
      have B1 := Lib.hid (HB.out.trans hb)
      rw [hdn]
      have HDN := Lib.hid hdn
      clear hl hi hb hd hdn
      go_wp2_with fail
      (with_reducible refine (lresult_any L1.out).mono ?_)
      rintro e w2 ⟨rfl, nd, rfl⟩
      go_wp2_with fail
      go_ret3
      have hr := HR.out.1
      cases hr with
      | last _ =>
        have hN := HR.out.2
        have e1 : (j : Int) + 1 = (N : Int) := by omega
        have ey := HY.out
        rw [ey]
        have e2 : j + 1 = N := by omega
        refine ⟨?_, e2 ▸ HII.out _ _ _ _ I1.out, ⟨B1.out.os, B1.out.tape, B1.out.output, B1.out.size, B1.out.block⟩⟩
        show Ending.returned (.tuple #[.int .i64 y.2.2.cd, .int .i64 y.2.2.vl, .int .i64 ((j : Int) + 1)]) = _
        rw [e1]
      | cons h _ =>
        exfalso
        have h2 := HDN.out
        rw [HY.out] at h
        rw [h] at h2
        cases h2
    | false =>
      go_wp2_with fail
      (with_reducible refine HC.out.mono ?_)
      rintro e w1 ⟨rfl, hi, _, hv, hb⟩
      have I1 := Lib.hid (And.intro hi (hv hdn))
      have B1 := Lib.hid (HB.out.trans hb)
      have HDN := Lib.hid hdn
      rw [hdn]
      clear hi hv hb hdn
      go_wp2_with fail
      go_roundw
      case rel =>
        have hr := HR.out.1
        cases hr with
        | last h =>
          exfalso
          have h2 := HDN.out
          rw [HY.out] at h
          rw [h] at h2
          cases h2
        | cons h h3 =>
          rw [HY.out] at h3
          refine ⟨j + 1, y.1, y.2.1, _, by go_num, I1.out.1, I1.out.2, h3, ?_, B1.out⟩
          have := HR.out.2
          omega
      case measure => simp [intOf]; have := HJ.out; omega
end Go.Proofs.YtgipddeldddbnaaGreat

namespace Go.Proofs.YtgipddeldddbnaaGreat
open Go Go.RowKit Go.Shelf
set_option linter.unusedSimpArgs false
set_option linter.unusedVariables false

/-- The environment of the laws, all of it at or above block B; n events may have come to E. -/
def TI (B p m k g cap : Nat) (t d : Int) (hd : List Value) (rv : Value) (c : Cfg) (E n : Nat) (w : World) (x : St × List Rec × List Ev) : Prop :=
  ∃ ev, TW B w p m k g cap x.1 t d hd rv ev x.2.1 x.2.2 ∧ x.1.U ∧ (x.2.1.length : Int) = c.ta ∧ x.2.2.length ≤ E + n ∧ B ≤ w.heap.size
/-- What stays of an environment. -/
structure TC (B p m k g : Nat) (hd : List Value) (c : Cfg) : Prop where
  l : LayHd hd c
  i : CfgIn c
  lo : B ≤ p ∧ B ≤ m ∧ B ≤ k ∧ B ≤ g
def alcX (c : Cfg) (y : St × List Rec × List Ev) (x : Fra) : (St × List Rec × List Ev) × Fra × Res := (((alcS c y.1).1, y.2), x, (alcS c y.1).2)
def pubX (c : Cfg) (t : Int) (y : St × List Rec × List Ev) (x : Fra) : (St × List Rec × List Ev) × Fra × Res := (((pubS c t y.1 x).1, y.2), (pubS c t y.1 x).2.1, (pubS c t y.1 x).2.2)
def clmX (c : Cfg) (y : St × List Rec × List Ev) (x : Fra) : (St × List Rec × List Ev) × Fra × Res := (((clmS c y.2.1 y.1 y.2.2 x).1, (clmS c y.2.1 y.1 y.2.2 x).2.2.1, (clmS c y.2.1 y.1 y.2.2 x).2.1), x, (clmS c y.2.1 y.1 y.2.2 x).2.2.2)
section
variable {w w' : World} {B p m k g cap q E n : Nat} {t d : Int} {hd : List Value} {rv : Value} {c : Cfg} {x : St × List Rec × List Ev}
theorem TI.drewN (h : TI B p m k g cap t d hd rv c E n w x) (j : Nat) : TI B p m k g cap t d hd rv c E n (w.drewN j) x := by
  obtain ⟨ev, a, b, e, f, z⟩ := h
  exact ⟨ev, a.below (below_drewN _ _), b, e, f, z⟩
theorem TI.below (h : TI B p m k g cap t d hd rv c E n w x) (hb : Below w.heap.size w w') : TI B p m k g cap t d hd rv c E n w' x := by
  obtain ⟨ev, a, b, e, f, z⟩ := h
  exact ⟨ev, a.below hb, b, e, f, Nat.le_trans z hb.size⟩
theorem alc_U {s : St} (h : s.U) : (alcS c s).1.U := go_U h _ _ _ (fun _ _ => uw_wrap _)
theorem uw_one : uw 1 := ⟨by decide, by decide⟩
theorem uw_two : uw 2 := ⟨by decide, by decide⟩
theorem pub_U {s : St} {f : Fra} (h : s.U) : (pubS c t s f).1.U := by
  unfold pubS
  split
  · split
    · exact go_U h _ _ _ (fun _ _ => uw_wrap _)
    split
    · exact go_U h _ _ _ (fun _ _ => uw_wrap _)
    · exact go_U h _ _ _ (fun _ _ => uw_one)
  · exact h
theorem clm_U {s : St} {f : Fra} {rs : List Rec} {es : List Ev} (h : s.U) : (clmS c rs s es f).1.U := by
  have h2 : (s.go 3 (rTask c f.fb 0) (fun x => if x = 1 then 2 else x)).U := go_U h _ _ _ (fun x hx => by split; exact uw_two; exact hx)
  unfold clmS
  split <;> exact h2
theorem clm_len {s : St} {f : Fra} {rs : List Rec} {es : List Ev} : (clmS c rs s es f).2.1.length = es.length + 1 ∧ (clmS c rs s es f).2.2.1.length = rs.length := by
  unfold clmS
  split <;> simp
/-- The blocks that a step may change lie at or above B. -/
theorem TW.low {w : World} {s : St} {ev : Value} {rs : List Rec} {es : List Ev} (h : TW B w p m k g cap s t d hd rv ev rs es) (hc : TC B p m k g hd c) (hq : B ≤ q) : ∀ y, y ∈ p :: m :: g :: q :: (rv.ownBlock.toList ++ ev.ownBlock.toList) → B ≤ y := by
  have hlo := hc.lo
  obtain ⟨ks, _, h2, _⟩ := h.r
  intro y hy
  simp only [List.mem_cons, List.mem_append, Option.mem_toList] at hy
  rcases hy with rfl | rfl | rfl | rfl | hy | hy
  · omega
  · omega
  · omega
  · omega
  · exact (World.ownsRow.lt h2 y hy).1
  · exact (h.v.lt y hy).1
theorem alc_step (hc : TC B p m k g hd c) (hq : B ≤ q) {x : St × List Rec × List Ev} {f : Fra} (h : TI B p m k g cap t d hd rv c E n w x) (hv : LB w q 97 [] f 0 0 ∧ f.ln = 1) :
    Calls Tryz.prog 90 #[.pointer (some ⟨q, 0, none⟩), .pointer (some ⟨p, 0, none⟩)] w (GStep B (TI B p m k g cap t d hd rv c E) (fun w f => LB w q 97 [] f 0 0 ∧ f.ln = 1) q n w (alcX c x f)) := by
  obtain ⟨ev, ht, hu, hr, he, hs⟩ := h
  refine (allocator_any ht.e hc.l hc.i hv.1 hv.2).mono ?_
  rintro e w' ⟨rfl, hp, hb, hf⟩
  have hd1 : (alcS c x.1).2.dn = true := by unfold alcS; dsimp only; split <;> rfl
  have hS : ∀ j, j ∈ [m, g, q] → ∃ t cs, Blk w j t cs ∧ t ≠ 48 ∧ t ≠ 51 ∧ t ≠ 3 := by
    intro j hj
    by_cases hjq : j = q
    · subst hjq
      exact ⟨_, _, hv.1.blk, by decide, by decide, by decide⟩
    · exact ht.e.mg j (by simp only [List.mem_cons, List.not_mem_nil, or_false] at hj ⊢; omega)
  have hsz : w.heap.size ≤ w'.heap.size := hf.size
  refine ⟨rfl, ⟨ev, ⟨hp, ht.v.accs hf (fun j hj => by obtain ⟨t, cs, a, b, _⟩ := hS j hj; exact ⟨t, cs, a, b⟩), ht.r.accs hf (fun j hj => by obtain ⟨t, cs, a, _, b⟩ := hS j hj; exact ⟨t, cs, a, b⟩)⟩, alc_U (c := c) hu, hr, by show x.2.2.length ≤ _; omega, Nat.le_trans hs hsz⟩, fun _ => ⟨_, _, _, hb⟩, fun h => ?_, hf.below hs (fun y hy => ht.low hc hq y (by simp only [List.mem_cons, List.not_mem_nil, or_false] at hy ⊢; rcases hy with rfl | rfl | rfl <;> simp))⟩
  have h2 : (alcS c x.1).2.dn = false := h
  rw [hd1] at h2
  cases h2
theorem pubS_kp {s : St} {f : Fra} (h : (pubS c t s f).2.2.dn = false) (ho : PubOk c f) : PubOk c (pubS c t s f).2.1 ∧ (pubS c t s f).2.1.fa = f.fa ∧ (pubS c t s f).2.1.fb = f.fb ∧ (pubS c t s f).2.2.cd = 0 ∧ (pubS c t s f).2.2.vl = 0 := by
  unfold pubS at h ⊢
  split
  · rename_i ht
    rw [if_pos ht] at h
    split
    · exact ⟨.inr ⟨ht, .inl rfl⟩, rfl, rfl, rfl, rfl⟩
    · rename_i h1
      rw [if_neg h1] at h
      split
      · exact ⟨.inr ⟨ht, .inr rfl⟩, rfl, rfl, rfl, rfl⟩
      · rename_i h2
        rw [if_neg h2] at h
        cases h
  · rename_i ht
    rw [if_neg ht] at h
    cases h
theorem pub_step (hc : TC B p m k g hd c) (hq : B ≤ q) {x : St × List Rec × List Ev} {f : Fra} (h : TI B p m k g cap t d hd rv c E n w x) (hv : LB w q 100 [.int .i64 f.fa, .int .i64 f.fb] f 0 0 ∧ PubOk c f) :
    Calls Tryz.prog 95 #[.pointer (some ⟨q, 0, none⟩), .pointer (some ⟨p, 0, none⟩)] w (GStep B (TI B p m k g cap t d hd rv c E) (fun w f => LB w q 100 [.int .i64 f.fa, .int .i64 f.fb] f 0 0 ∧ PubOk c f) q n w (pubX c t x f)) := by
  obtain ⟨ev, ht, hu, hr, he, hs⟩ := h
  refine (publisher_any ht.e hc.l hc.i hv.1 hv.2).mono ?_
  rintro e w' ⟨rfl, hp, hb, hf⟩
  have hS : ∀ j, j ∈ [m, g, q] → ∃ t cs, Blk w j t cs ∧ t ≠ 48 ∧ t ≠ 51 ∧ t ≠ 3 := by
    intro j hj
    by_cases hjq : j = q
    · subst hjq
      exact ⟨_, _, hv.1.blk, by decide, by decide, by decide⟩
    · exact ht.e.mg j (by simp only [List.mem_cons, List.not_mem_nil, or_false] at hj ⊢; omega)
  have hsz : w.heap.size ≤ w'.heap.size := hf.size
  refine ⟨rfl, ⟨ev, ⟨hp, ht.v.accs hf (fun j hj => by obtain ⟨t, cs, a, b, _⟩ := hS j hj; exact ⟨t, cs, a, b⟩), ht.r.accs hf (fun j hj => by obtain ⟨t, cs, a, _, b⟩ := hS j hj; exact ⟨t, cs, a, b⟩)⟩, pub_U hu, hr, by show x.2.2.length ≤ _; omega, Nat.le_trans hs hsz⟩, fun _ => ⟨_, _, _, hb⟩, fun h => ?_, hf.below hs (fun y hy => ht.low hc hq y (by simp only [List.mem_cons, List.not_mem_nil, or_false] at hy ⊢; rcases hy with rfl | rfl | rfl <;> simp))⟩
  have h2 : (pubS c t x.1 f).2.2.dn = false := h
  obtain ⟨k1, k2, k3, k4, k5⟩ := pubS_kp h2 hv.2
  rw [if_neg (by rw [h2]; decide), k4, k5] at hb
  refine ⟨?_, k1⟩
  show LB w' q _ [.int .i64 (pubS c t x.1 f).2.1.fa, .int .i64 (pubS c t x.1 f).2.1.fb] _ 0 0
  rw [k2, k3]
  exact hb
theorem clm_step (hc : TC B p m k g hd c) (hq : B ≤ q) {x : St × List Rec × List Ev} {f : Fra} (h : TI B p m k g cap t d hd rv c E n w x) (hE : E + n ≤ 900000) (hv : LB w q 76 (cpost f) f 0 0 ∧ f.ln = 1) :
    Calls Tryz.prog 83 #[.pointer (some ⟨q, 0, none⟩), .pointer (some ⟨p, 0, none⟩)] w (GStep B (TI B p m k g cap t d hd rv c E) (fun w f => LB w q 76 (cpost f) f 0 0 ∧ f.ln = 1) q n w (clmX c x f)) := by
  obtain ⟨ev, ht, hu, hr, he, hs⟩ := h
  refine (claimer_any ht hc.l hc.i hv.1 hv.2 (by omega) hs hr).mono ?_
  rintro e w' ⟨ev', rfl, hp, hat, hb, hf⟩
  have hd1 : (clmS c x.2.1 x.1 x.2.2 f).2.2.2.dn = true := by unfold clmS; split <;> rfl
  have hl := @clm_len c x.1 f x.2.1 x.2.2
  refine ⟨rfl, ⟨ev', hp, clm_U hu, ?_, ?_, Nat.le_trans hs hf.size⟩, fun _ => ⟨_, _, _, hb⟩, fun h => ?_, hf.below hs (fun y hy => ht.low hc hq y hy)⟩
  · show ((clmS c x.2.1 x.1 x.2.2 f).2.2.1.length : Int) = c.ta
    rw [hl.2]
    exact hr
  · show (clmS c x.2.1 x.1 x.2.2 f).2.1.length ≤ _
    omega
  · have h2 : (clmS c x.2.1 x.1 x.2.2 f).2.2.2.dn = false := h
    rw [hd1] at h2
    cases h2
end
end Go.Proofs.YtgipddeldddbnaaGreat
