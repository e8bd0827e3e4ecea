/-
  Package parts: On; package owner: Push and Pop; the methods of their machines. (Written by wip/gen_alone.py.)
  Package injector: Insert and Remove, the methods of their machines, their copies. (Written by wip/gen_inj.py.)
  Package injector: a step of its machines, in one word for both.
  Package injector: its machines alone change the slots as pushes and pops change a list. No function is named.
  Package injector: Remove alone, and whole runs of both machines. No function is named.
-/
import Derived.Test.YtanbjdlaolgepaaGreatMgAA
import Derived.Test.YtanbjdlaolgepaaGreatMgAO
import Derived.Test.YtanbjdlaolgepaaGreatMgAC
import Derived.Test.YtanbjdlaolgepaaGreatMgBF
import Derived.Deep.QuietTactic
import Derived.BigQuiet
import Derived.Deep.RegionHeld3
import Derived.RegionTactic
import Derived.Test.YtanbjdlaolgepaaGreatMgAT
import Derived.Test.YtanbjdlaolgepaaGreatMgAN
import Derived.StillTailTactics
import Derived.Test.YtanbjdlaolgepaaGreatInjC
namespace Go.Proofs.YtanbjdlaolgepaaGreat
open Go Go.RowKit Go.Shelf
set_option linter.unusedSimpArgs false

abbrev begcells : Array Value := #[.int .i64 1, .int .i64 0, .int .i64 0]
theorem lbegin_any (w : World) : Calls Tryz.prog 35 #[] w fun e w' => e = .returned (.agg begcells) ∧ Below w.heap.size w w' := by
  have HB := Lib.hid (below_one w (.cells begcells 104))
  have HX := Lib.hid (Blk.made w 104 begcells)
  go_enter Tryz.func35, Tryz.ntmps35
  go_wp2
  refine bodyPost_ret (results_cell_row (P := Tryz.prog) Tryz.results35 _ _ w.heap.size 104 _ (0, 0) _ rfl HX.out Tryz.underlying104 rfl (by kernel_rfl)) rfl ?_
  exact ⟨rfl, HB.out⟩

end Go.Proofs.YtanbjdlaolgepaaGreat

namespace Go.Proofs.YtanbjdlaolgepaaGreat
open Go Go.RowKit Go.Shelf
set_option linter.unusedSimpArgs false
set_option linter.unusedVariables false


/-- What Insert gives. -/
def inserter_made (a b : Int) (w : World) (e : Ending) (w' : World) : Prop :=
  ∃ q : Nat, e = .returned (.iface 110 (.pointer (some ⟨q, 0, none⟩))) ∧ LB w' q 112 (ipost { fra1 10 0 0 0 0 a with fb := b }) { fra1 10 0 0 0 0 a with fb := b } 0 0 ∧ w.heap.size ≤ q ∧ Below w.heap.size w w'
set_option maxHeartbeats 2000000 in
theorem inserter_new (a b : Int) (w : World) : Calls Tryz.prog 15 #[.int .i64 a, .int .i64 b] w (inserter_made a b w) := by
  go_enter Tryz.func15, Tryz.ntmps15
  go_wp2_with fail
  (with_reducible refine (lbegin_any _).mono ?_)
  rintro e w1 ⟨rfl, hb⟩
  have HB := Lib.hid hb
  clear hb
  go_wp2
  go_ret
  have hs := HB.out.size
  refine ⟨w1.heap.size, rfl, ⟨Blk.made w1 _ _, by decide, by decide, by decide, by decide⟩, hs, HB.out.trans ((below_one w1 _).mono hs)⟩
theorem meth_step_inserter (q : Nat) (w : World) : (method 328 110 (.pointer (some ⟨q, 0, none⟩)) "Step").run Tryz.prog w = .ok (194, .pointer (some ⟨q, 0, none⟩)) w := by kernel_rfl
theorem ahead_step_inserter (q : Nat) (w : World) : (nilAhead 328 110 (.pointer (some ⟨q, 0, none⟩)) "Step").run Tryz.prog w = .ok (some false) w := by kernel_rfl
theorem meth_result_inserter (q : Nat) (w : World) : (method 328 110 (.pointer (some ⟨q, 0, none⟩)) "Result").run Tryz.prog w = .ok (172, .pointer (some ⟨q, 0, none⟩)) w := by kernel_rfl
theorem ahead_result_inserter (q : Nat) (w : World) : (nilAhead 328 110 (.pointer (some ⟨q, 0, none⟩)) "Result").run Tryz.prog w = .ok (some false) w := by kernel_rfl

/-- What Remove gives. -/
def remover_made (a : Int) (w : World) (e : Ending) (w' : World) : Prop :=
  ∃ q : Nat, e = .returned (.iface 102 (.pointer (some ⟨q, 0, none⟩))) ∧ LB w' q 109 (rpost (fra1 11 0 0 0 0 a)) (fra1 11 0 0 0 0 a) 0 0 ∧ w.heap.size ≤ q ∧ Below w.heap.size w w'
set_option maxHeartbeats 2000000 in
theorem remover_new (a : Int) (w : World) : Calls Tryz.prog 13 #[.int .i64 a] w (remover_made a w) := by
  go_enter Tryz.func13, Tryz.ntmps13
  go_wp2_with fail
  (with_reducible refine (lbegin_any _).mono ?_)
  rintro e w1 ⟨rfl, hb⟩
  have HB := Lib.hid hb
  clear hb
  go_wp2
  go_ret
  have hs := HB.out.size
  refine ⟨w1.heap.size, rfl, ⟨Blk.made w1 _ _, by decide, by decide, by decide, by decide⟩, hs, HB.out.trans ((below_one w1 _).mono hs)⟩
theorem meth_step_remover (q : Nat) (w : World) : (method 328 102 (.pointer (some ⟨q, 0, none⟩)) "Step").run Tryz.prog w = .ok (173, .pointer (some ⟨q, 0, none⟩)) w := by kernel_rfl
theorem ahead_step_remover (q : Nat) (w : World) : (nilAhead 328 102 (.pointer (some ⟨q, 0, none⟩)) "Step").run Tryz.prog w = .ok (some false) w := by kernel_rfl
theorem meth_result_remover (q : Nat) (w : World) : (method 328 102 (.pointer (some ⟨q, 0, none⟩)) "Result").run Tryz.prog w = .ok (172, .pointer (some ⟨q, 0, none⟩)) w := by kernel_rfl
theorem ahead_result_remover (q : Nat) (w : World) : (nilAhead 328 102 (.pointer (some ⟨q, 0, none⟩)) "Result").run Tryz.prog w = .ok (some false) w := by kernel_rfl

end Go.Proofs.YtanbjdlaolgepaaGreat

namespace Go.Proofs.YtanbjdlaolgepaaGreat
open Go Go.RowKit Go.Shelf
set_option linter.unusedSimpArgs false
set_option linter.unusedVariables false

/-- What a step of a machine of package injector gives. -/
def IStep (B : Nat) (w : World) (p m k g cap : Nat) (s' : St) (t d : Int) (hd : List Value) (rv ev : Value) (es' : List Ev) (q : Nat) (ty : TypeId) (post : Fra → List Value) (f' : Fra) (r : Res) (e : Ending) (w' : World) : Prop :=
  ∃ ev', e = .returned (.bool r.dn) ∧ PE w' p m k g cap s' t d hd rv ev' ∧ OwnE w' B ev' es' ∧ (∀ x, ev'.ownBlock = some x → ev.ownBlock = some x ∨ w.heap.size ≤ x) ∧
    (r.dn = true → ∃ f0 : Fra, LB w' q ty (post f0) { f0 with ln := 0 } r.cd r.vl) ∧ (r.dn = false → LB w' q ty (post f') f' 0 0) ∧ Fr (p :: m :: g :: q :: ev.ownBlock.toList) w w'
section
variable {w w' : World} {p m k g cap : Nat} {s s' : St} {t d : Int} {hd : List Value} {rv ev : Value} {q : Nat} {f f' f'' : Fra} {c : Cfg} {B : Nat} {es es' : List Ev} {ty : TypeId} {post : Fra → List Value} {pst : List Value} {cd vl : Int} {r : Res} {e : Ending}
theorem ILine.istep (h : ILine w p m k g cap s' t d hd rv ev q ty post f' r e w') (hev : OwnE w B ev es) (hp : PE w p m k g cap s t d hd rv ev) (hb : LB w q ty pst f cd vl) (ht : ty ≠ 163) (hn : r.dn = false → f' = f'' ∧ r.cd = 0 ∧ r.vl = 0) :
    IStep B w p m k g cap s' t d hd rv ev es q ty post f'' r e w' := by
  obtain ⟨h1, h2, h3, h4⟩ := h
  refine ⟨ev, h1, h2, hev.accs h4 (rem_accs hp hb ht), fun x hx => .inl hx, fun hd => ⟨f', by rwa [if_pos hd] at h3⟩, fun hd => ?_, h4.mono (by simp)⟩
  obtain ⟨e1, e2, e3⟩ := hn hd
  rw [if_neg (by rw [hd]; decide), e1, e2, e3] at h3
  exact h3
theorem ILineE.istep (h : ILineE B w p m k g cap s' t d hd rv ev es q ty post f' r e w') (hn : r.dn = false → f' = f'' ∧ r.cd = 0 ∧ r.vl = 0) : IStep B w p m k g cap s' t d hd rv ev es q ty post f'' r e w' := by
  obtain ⟨ev', h1, h2, hv, ha, h3, h4⟩ := h
  refine ⟨ev', h1, h2, hv, ha, fun hd => ⟨f', by rwa [if_pos hd] at h3⟩, fun hd => ?_, h4⟩
  obtain ⟨e1, e2, e3⟩ := hn hd
  rw [if_neg (by rw [hd]; decide), e1, e2, e3] at h3
  exact h3
theorem inserter_any (hin : CfgIn c) (hp : PE w p m k g cap s t d hd rv ev) (hl : LayHd hd c) (h : LB w q 112 (ipost f) f 0 0) (hev : OwnE w B ev es) (ho : InsOk f) :
    Calls Tryz.prog 194 #[.pointer (some ⟨q, 0, none⟩), .pointer (some ⟨p, 0, none⟩)] w (IStep B w p m k g cap (insertS c s f).1 t d hd rv ev es q 112 ipost (insertS c s f).2.1 (insertS c s f).2.2) := by
  unfold insertS
  simp only [wrap_two]
  rcases ho.ln with h1 | h1 | h1 | h1 | h1 | h1
  · simp only [h1, if_true]
    by_cases hc : c.he ≤ wrap64 (s.old 2)
    · simp only [if_pos hc]
      exact (insr_1f hin hp hl h h1 hc).mono fun e w' H => H.istep hev hp h (by decide) (fun h => by cases h)
    · simp only [if_neg hc]
      exact (insr_1 hin hp hl h h1 hc).mono fun e w' H => H.istep hev hp h (by decide) (fun _ => ⟨rfl, rfl, rfl⟩)
  · simp only [h1, show ¬ (2 : Int) = 1 by decide, if_false, if_true]
    by_cases hk : Keyed f.fa (IntKind.i64.wrap (s.old 3)) f.fb
    · rw [wrap_two] at hk
      simp only [if_pos hk]
      rw [← wrap_two] at hk ⊢
      by_cases hi : f.fn ≤ 0
      · simp only [if_pos hi]
        exact (insr_2z hin hp hl h h1 hk hi).mono fun e w' H => H.istep hev hp h (by decide) (fun _ => ⟨rfl, rfl, rfl⟩)
      · simp only [if_neg hi]
        exact (insr_2y hin hp hl h h1 hk (by omega)).mono fun e w' H => H.istep hev hp h (by decide) (fun _ => ⟨rfl, rfl, rfl⟩)
    · have hk2 := hk
      rw [wrap_two] at hk
      simp only [if_neg hk]
      exact (insr_2n hin hp hl h h1 hk2).mono fun e w' H => H.istep hev hp h (by decide) (fun h => by cases h)
  · simp only [h1, show ¬ (3 : Int) = 1 by decide, show ¬ (3 : Int) = 2 by decide, if_false, if_true]
    by_cases hc : s.old (rSlot c (parI f.fi)) ≤ f.fw
    · simp only [if_pos hc]
      exact (insr_3l hin hp hl h h1 hc).mono fun e w' H => H.istep hev hp h (by decide) (fun _ => ⟨rfl, rfl, rfl⟩)
    · simp only [if_neg hc]
      exact (insr_3 hin hp hl h h1 hc).mono fun e w' H => H.istep hev hp h (by decide) (fun _ => ⟨rfl, rfl, rfl⟩)
  · simp only [h1, show ¬ (4 : Int) = 1 by decide, show ¬ (4 : Int) = 2 by decide, show ¬ (4 : Int) = 3 by decide, if_false, if_true]
    by_cases hi : parI f.fi ≤ 0
    · simp only [if_pos hi]
      exact (insr_4z hin hp hl h h1 hi).mono fun e w' H => H.istep hev hp h (by decide) (fun _ => ⟨rfl, rfl, rfl⟩)
    · simp only [if_neg hi]
      exact (insr_4y hin hp hl h h1 (by omega)).mono fun e w' H => H.istep hev hp h (by decide) (fun _ => ⟨rfl, rfl, rfl⟩)
  · simp only [h1, show ¬ (5 : Int) = 1 by decide, show ¬ (5 : Int) = 2 by decide, show ¬ (5 : Int) = 3 by decide, show ¬ (5 : Int) = 4 by decide, if_false, if_true]
    exact (insr_5 hin hp hl h h1).mono fun e w' H => H.istep hev hp h (by decide) (fun _ => ⟨rfl, rfl, rfl⟩)
  · simp only [h1, show ¬ (6 : Int) = 1 by decide, show ¬ (6 : Int) = 2 by decide, show ¬ (6 : Int) = 3 by decide, show ¬ (6 : Int) = 4 by decide, show ¬ (6 : Int) = 5 by decide, if_false, if_true]
    exact (insr_6 hin hp hl h h1).mono fun e w' H => H.istep hev hp h (by decide) (fun h => by cases h)
theorem w64_child (x : Int) : wrap64 (wrap64 (wrap64 x + 1) + 1) = wrap64 (wrap64 x + 2) := by unfold wrap64; omega
theorem remover_any (hin : CfgIn c) (hp : PE w p m k g cap s t d hd rv ev) (hl : LayHd hd c) (h : LB w q 109 (rpost f) f 0 0) (hev : OwnE w B ev es) (hn : es.length ≤ 900000) (hB : B ≤ w.heap.size) (ho : RemOk f) :
    Calls Tryz.prog 173 #[.pointer (some ⟨q, 0, none⟩), .pointer (some ⟨p, 0, none⟩)] w (IStep B w p m k g cap (removeS c s es f).1 t d hd rv ev (removeS c s es f).2.1 q 109 rpost (removeS c s es f).2.2.1 (removeS c s es f).2.2.2) := by
  unfold removeS
  simp only [wrap_two]
  rcases ho.ln with h1 | h1 | h1 | h1 | h1 | h1 | h1 | h1
  · simp only [h1, if_true]
    by_cases hc : wrap64 (s.old 2) ≤ 0
    · simp only [if_pos hc]
      exact (remr_1e hin hp hl h h1 hc).mono fun e w' H => H.istep hev hp h (by decide) (fun h => by cases h)
    · simp only [if_neg hc]
      exact (remr_1 hin hp hl h h1 hc).mono fun e w' H => H.istep hev hp h (by decide) (fun _ => ⟨rfl, rfl, rfl⟩)
  · simp only [h1, show ¬ (2 : Int) = 1 by decide, if_false, if_true]
    exact (remr_2 hin hp hl h h1).mono fun e w' H => H.istep hev hp h (by decide) (fun _ => ⟨rfl, rfl, rfl⟩)
  · simp only [h1, show ¬ (3 : Int) = 1 by decide, show ¬ (3 : Int) = 2 by decide, if_false, if_true]
    exact (remr_3 hin hp hl h h1).mono fun e w' H => H.istep hev hp h (by decide) (fun _ => ⟨rfl, rfl, rfl⟩)
  · simp only [h1, show ¬ (4 : Int) = 1 by decide, show ¬ (4 : Int) = 2 by decide, show ¬ (4 : Int) = 3 by decide, if_false, if_true]
    have hz := ho.z (by omega)
    by_cases hc : f.fn = 1
    · simp only [if_pos hc]
      exact (remr_4d hin hp hl h h1 ho.u.1 hev hn hB hc).mono fun e w' H => H.istep (fun h => by cases h)
    · simp only [if_neg hc]
      have hfr : ∀ L : Int, ({ f with ln := L } : Fra) = { f with fi := 0, ln := L } := by
        intro L
        rw [← hz]
      unfold childN
      by_cases hx : wrap64 (wrap64 (2 * f.fi) + 1) < wrap64 (f.fn - 1)
      · have hx' := hx
        rw [hz] at hx'
        simp only [if_pos hx']
        exact (remr_4y hin hp hl h h1 ho.u.1 hev hn hB hc hx).mono fun e w' H => H.istep (fun _ => ⟨hfr 5, rfl, rfl⟩)
      · have hx' := hx
        rw [hz] at hx'
        simp only [if_neg hx']
        exact (remr_4n hin hp hl h h1 ho.u.1 hev hn hB hc hx).mono fun e w' H => H.istep (fun _ => ⟨hfr 8, rfl, rfl⟩)
  · simp only [h1, show ¬ (5 : Int) = 1 by decide, show ¬ (5 : Int) = 2 by decide, show ¬ (5 : Int) = 3 by decide, show ¬ (5 : Int) = 4 by decide, if_false, if_true]
    have hw := w64_child (2 * f.fi)
    by_cases hc : wrap64 (f.fn - 1) ≤ wrap64 (wrap64 (2 * f.fi) + 2)
    · simp only [if_pos hc]
      unfold lessN
      by_cases hx : s.old (rSlot c (wrap64 (wrap64 (2 * f.fi) + 1))) < f.fv
      · simp only [if_pos hx]
        exact (remr_5y hin hp hl h h1 (by rw [hw]; omega) hx).mono fun e w' H => H.istep hev hp h (by decide) (fun _ => ⟨rfl, rfl, rfl⟩)
      · simp only [if_neg hx]
        exact (remr_5n hin hp hl h h1 (by rw [hw]; omega) hx).mono fun e w' H => H.istep hev hp h (by decide) (fun _ => ⟨rfl, rfl, rfl⟩)
    · simp only [if_neg hc]
      exact (remr_5m hin hp hl h h1 (by rw [hw]; omega)).mono fun e w' H => H.istep hev hp h (by decide) (fun _ => ⟨rfl, rfl, rfl⟩)
  · simp only [h1, show ¬ (6 : Int) = 1 by decide, show ¬ (6 : Int) = 2 by decide, show ¬ (6 : Int) = 3 by decide, show ¬ (6 : Int) = 4 by decide, show ¬ (6 : Int) = 5 by decide, if_false, if_true]
    have hj := (ho.c6 h1).1
    have hi := ho.fi
    have e6 : wrap64 (wrap64 (2 * f.fi) + 2) = wrap64 (f.fj + 1) := by rw [hj]; unfold wrap64; omega
    rw [e6]
    unfold lessN
    by_cases hc : s.old (rSlot c (wrap64 (f.fj + 1))) < f.fw
    · simp only [if_pos hc]
      by_cases hx : s.old (rSlot c (wrap64 (f.fj + 1))) < f.fv
      · simp only [if_pos hx]
        exact (remr_6yy hin hp hl h h1 hc hx).mono fun e w' H => H.istep hev hp h (by decide) (fun _ => ⟨rfl, rfl, rfl⟩)
      · simp only [if_neg hx]
        exact (remr_6yn hin hp hl h h1 hc hx).mono fun e w' H => H.istep hev hp h (by decide) (fun _ => ⟨rfl, rfl, rfl⟩)
    · simp only [if_neg hc]
      by_cases hx : f.fw < f.fv
      · simp only [if_pos hx]
        exact (remr_6ny hin hp hl h h1 hc hx).mono fun e w' H => H.istep hev hp h (by decide) (fun _ => ⟨rfl, rfl, rfl⟩)
      · simp only [if_neg hx]
        exact (remr_6nn hin hp hl h h1 hc hx).mono fun e w' H => H.istep hev hp h (by decide) (fun _ => ⟨rfl, rfl, rfl⟩)
  · simp only [h1, show ¬ (7 : Int) = 1 by decide, show ¬ (7 : Int) = 2 by decide, show ¬ (7 : Int) = 3 by decide, show ¬ (7 : Int) = 4 by decide, show ¬ (7 : Int) = 5 by decide, show ¬ (7 : Int) = 6 by decide, if_false, if_true]
    unfold childN
    by_cases hc : wrap64 (wrap64 (2 * f.fj) + 1) < wrap64 (f.fn - 1)
    · simp only [if_pos hc]
      exact (remr_7y hin hp hl h h1 hc).mono fun e w' H => H.istep hev hp h (by decide) (fun _ => ⟨rfl, rfl, rfl⟩)
    · simp only [if_neg hc]
      exact (remr_7n hin hp hl h h1 hc).mono fun e w' H => H.istep hev hp h (by decide) (fun _ => ⟨rfl, rfl, rfl⟩)
  · simp only [h1, show ¬ (8 : Int) = 1 by decide, show ¬ (8 : Int) = 2 by decide, show ¬ (8 : Int) = 3 by decide, show ¬ (8 : Int) = 4 by decide, show ¬ (8 : Int) = 5 by decide, show ¬ (8 : Int) = 6 by decide, show ¬ (8 : Int) = 7 by decide, if_false, if_true]
    exact (remr_8 hin hp hl h h1 ho.u.1).mono fun e w' H => H.istep hev hp h (by decide) (fun h => by cases h)
end
end Go.Proofs.YtanbjdlaolgepaaGreat

namespace Go.Proofs.YtanbjdlaolgepaaGreat
open Go Go.RowKit
set_option linter.unusedSimpArgs false
set_option linter.unusedVariables false

/-- The steps of a machine that emits. -/
inductive RunE (stp : St → List Ev → Fra → St × List Ev × Fra × Res) : St → List Ev → Fra → St → List Ev → Res → Nat → Prop
  | last {s : St} {es : List Ev} {f : Fra} : (stp s es f).2.2.2.dn = true → RunE stp s es f (stp s es f).1 (stp s es f).2.1 (stp s es f).2.2.2 1
  | cons {s s' : St} {es es' : List Ev} {f : Fra} {r : Res} {n : Nat} : (stp s es f).2.2.2.dn = false → RunE stp (stp s es f).1 (stp s es f).2.1 (stp s es f).2.2.1 s' es' r n → RunE stp s es f s' es' r (n + 1)
def insE (c : Cfg) (s : St) (es : List Ev) (f : Fra) : St × List Ev × Fra × Res := ((insertS c s f).1, es, (insertS c s f).2.1, (insertS c s f).2.2)
section
variable {c : Cfg} {s : St} {es : List Ev} {f : Fra}
end
theorem slot_is {c : Cfg} {i : Nat} (h : (i : Int) < c.he) : rSlot c i = 4 + i := by
  unfold rSlot ixs
  rw [if_neg (by omega)]
  omega
theorem cells_ge {c : Cfg} (hin : CfgIn c) : 5 + c.he ≤ rCells c ∧ rCells c ≤ 70000 := by
  have h1 := hin.all
  have h2 := hin.cl
  have h3 := hin.wo
  have h4 := hin.ta
  have h5 := hin.cells
  unfold rCells rDeques at *
  omega
end Go.Proofs.YtanbjdlaolgepaaGreat

namespace Go.Proofs.YtanbjdlaolgepaaGreat
open Go Go.RowKit
set_option linter.unusedSimpArgs false
set_option linter.unusedVariables false

section
variable {c : Cfg} {s : St} {es : List Ev} {f : Fra}
end

section
variable {c : Cfg} {s : St} {es : List Ev} {h : List Int} {A : Nat}
end
theorem RunE.one {stp : St → List Ev → Fra → St × List Ev × Fra × Res} {s s' : St} {es es' : List Ev} {f : Fra} {r : Res} {n : Nat} (h : RunE stp s es f s' es' r n) : 1 ≤ n := by cases h <;> omega
end Go.Proofs.YtanbjdlaolgepaaGreat
