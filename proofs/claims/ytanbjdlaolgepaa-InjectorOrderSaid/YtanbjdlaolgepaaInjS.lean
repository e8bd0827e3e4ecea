/-
  Package injector: a step of its machines, in one word for both.
-/
import Derived.Test.YtanbjdlaolgepaaInjC
namespace Go.Proofs.Ytanbjdlaolgepaa
open Go Go.RowKit Go.Shelf
set_option linter.unusedSimpArgs false
set_option linter.unusedVariables false

/-- What a step of a machine of package injector gives. -/
def IStep (B : Nat) (w : World) (p m k g cap : Nat) (s' : St) (t d : Int) (hd : List Value) (rv ev : Value) (es' : List Ev) (q : Nat) (ty : TypeId) (post : Fra → List Value) (f' : Fra) (r : Res) (e : Ending) (w' : World) : Prop :=
  ∃ ev', e = .returned (.bool r.dn) ∧ PE w' p m k g cap s' t d hd rv ev' ∧ OwnE w' B ev' es' ∧ (∀ x, ev'.ownBlock = some x → ev.ownBlock = some x ∨ w.heap.size ≤ x) ∧
    (r.dn = true → ∃ f0 : Fra, LB w' q ty (post f0) { f0 with ln := 0 } r.cd r.vl) ∧ (r.dn = false → LB w' q ty (post f') f' 0 0) ∧ Fr (p :: m :: g :: q :: ev.ownBlock.toList) w w'
section
variable {w w' : World} {p m k g cap : Nat} {s s' : St} {t d : Int} {hd : List Value} {rv ev : Value} {q : Nat} {f f' f'' : Fra} {c : Cfg} {B : Nat} {es es' : List Ev} {ty : TypeId} {post : Fra → List Value} {pst : List Value} {cd vl : Int} {r : Res} {e : Ending}
theorem ILine.istep (h : ILine w p m k g cap s' t d hd rv ev q ty post f' r e w') (hev : OwnE w B ev es) (hp : PE w p m k g cap s t d hd rv ev) (hb : LB w q ty pst f cd vl) (ht : ty ≠ 61) (hn : r.dn = false → f' = f'' ∧ r.cd = 0 ∧ r.vl = 0) :
    IStep B w p m k g cap s' t d hd rv ev es q ty post f'' r e w' := by
  obtain ⟨h1, h2, h3, h4⟩ := h
  refine ⟨ev, h1, h2, hev.accs h4 (rem_accs hp hb ht), fun x hx => .inl hx, fun hd => ⟨f', by rwa [if_pos hd] at h3⟩, fun hd => ?_, h4.mono (by simp)⟩
  obtain ⟨e1, e2, e3⟩ := hn hd
  rw [if_neg (by rw [hd]; decide), e1, e2, e3] at h3
  exact h3
theorem ILineE.istep (h : ILineE B w p m k g cap s' t d hd rv ev es q ty post f' r e w') (hn : r.dn = false → f' = f'' ∧ r.cd = 0 ∧ r.vl = 0) : IStep B w p m k g cap s' t d hd rv ev es q ty post f'' r e w' := by
  obtain ⟨ev', h1, h2, hv, ha, h3, h4⟩ := h
  refine ⟨ev', h1, h2, hv, ha, fun hd => ⟨f', by rwa [if_pos hd] at h3⟩, fun hd => ?_, h4⟩
  obtain ⟨e1, e2, e3⟩ := hn hd
  rw [if_neg (by rw [hd]; decide), e1, e2, e3] at h3
  exact h3
theorem inserter_any (hin : CfgIn c) (hp : PE w p m k g cap s t d hd rv ev) (hl : LayHd hd c) (h : LB w q 83 (ipost f) f 0 0) (hev : OwnE w B ev es) (ho : InsOk f) :
    Calls Try.prog 73 #[.pointer (some ⟨q, 0, none⟩), .pointer (some ⟨p, 0, none⟩)] w (IStep B w p m k g cap (insertS c s f).1 t d hd rv ev es q 83 ipost (insertS c s f).2.1 (insertS c s f).2.2) := by
  unfold insertS
  simp only [wrap_two]
  rcases ho.ln with h1 | h1 | h1 | h1 | h1 | h1
  · simp only [h1, if_true]
    by_cases hc : c.he ≤ wrap64 (s.old 2)
    · simp only [if_pos hc]
      exact (insr_1f hin hp hl h h1 hc).mono fun e w' H => H.istep hev hp h (by decide) (fun h => by cases h)
    · simp only [if_neg hc]
      exact (insr_1 hin hp hl h h1 hc).mono fun e w' H => H.istep hev hp h (by decide) (fun _ => ⟨rfl, rfl, rfl⟩)
  · simp only [h1, show ¬ (2 : Int) = 1 by decide, if_false, if_true]
    by_cases hk : Keyed f.fa (IntKind.i64.wrap (s.old 3)) f.fb
    · rw [wrap_two] at hk
      simp only [if_pos hk]
      rw [← wrap_two] at hk ⊢
      by_cases hi : f.fn ≤ 0
      · simp only [if_pos hi]
        exact (insr_2z hin hp hl h h1 hk hi).mono fun e w' H => H.istep hev hp h (by decide) (fun _ => ⟨rfl, rfl, rfl⟩)
      · simp only [if_neg hi]
        exact (insr_2y hin hp hl h h1 hk (by omega)).mono fun e w' H => H.istep hev hp h (by decide) (fun _ => ⟨rfl, rfl, rfl⟩)
    · have hk2 := hk
      rw [wrap_two] at hk
      simp only [if_neg hk]
      exact (insr_2n hin hp hl h h1 hk2).mono fun e w' H => H.istep hev hp h (by decide) (fun h => by cases h)
  · simp only [h1, show ¬ (3 : Int) = 1 by decide, show ¬ (3 : Int) = 2 by decide, if_false, if_true]
    by_cases hc : s.old (rSlot c (parI f.fi)) ≤ f.fw
    · simp only [if_pos hc]
      exact (insr_3l hin hp hl h h1 hc).mono fun e w' H => H.istep hev hp h (by decide) (fun _ => ⟨rfl, rfl, rfl⟩)
    · simp only [if_neg hc]
      exact (insr_3 hin hp hl h h1 hc).mono fun e w' H => H.istep hev hp h (by decide) (fun _ => ⟨rfl, rfl, rfl⟩)
  · simp only [h1, show ¬ (4 : Int) = 1 by decide, show ¬ (4 : Int) = 2 by decide, show ¬ (4 : Int) = 3 by decide, if_false, if_true]
    by_cases hi : parI f.fi ≤ 0
    · simp only [if_pos hi]
      exact (insr_4z hin hp hl h h1 hi).mono fun e w' H => H.istep hev hp h (by decide) (fun _ => ⟨rfl, rfl, rfl⟩)
    · simp only [if_neg hi]
      exact (insr_4y hin hp hl h h1 (by omega)).mono fun e w' H => H.istep hev hp h (by decide) (fun _ => ⟨rfl, rfl, rfl⟩)
  · simp only [h1, show ¬ (5 : Int) = 1 by decide, show ¬ (5 : Int) = 2 by decide, show ¬ (5 : Int) = 3 by decide, show ¬ (5 : Int) = 4 by decide, if_false, if_true]
    exact (insr_5 hin hp hl h h1).mono fun e w' H => H.istep hev hp h (by decide) (fun _ => ⟨rfl, rfl, rfl⟩)
  · simp only [h1, show ¬ (6 : Int) = 1 by decide, show ¬ (6 : Int) = 2 by decide, show ¬ (6 : Int) = 3 by decide, show ¬ (6 : Int) = 4 by decide, show ¬ (6 : Int) = 5 by decide, if_false, if_true]
    exact (insr_6 hin hp hl h h1).mono fun e w' H => H.istep hev hp h (by decide) (fun h => by cases h)
theorem w64_child (x : Int) : wrap64 (wrap64 (wrap64 x + 1) + 1) = wrap64 (wrap64 x + 2) := by unfold wrap64; omega
theorem remover_any (hin : CfgIn c) (hp : PE w p m k g cap s t d hd rv ev) (hl : LayHd hd c) (h : LB w q 89 (rpost f) f 0 0) (hev : OwnE w B ev es) (hn : es.length ≤ 900000) (hB : B ≤ w.heap.size) (ho : RemOk f) :
    Calls Try.prog 96 #[.pointer (some ⟨q, 0, none⟩), .pointer (some ⟨p, 0, none⟩)] w (IStep B w p m k g cap (removeS c s es f).1 t d hd rv ev (removeS c s es f).2.1 q 89 rpost (removeS c s es f).2.2.1 (removeS c s es f).2.2.2) := by
  unfold removeS
  simp only [wrap_two]
  rcases ho.ln with h1 | h1 | h1 | h1 | h1 | h1 | h1 | h1
  · simp only [h1, if_true]
    by_cases hc : wrap64 (s.old 2) ≤ 0
    · simp only [if_pos hc]
      exact (remr_1e hin hp hl h h1 hc).mono fun e w' H => H.istep hev hp h (by decide) (fun h => by cases h)
    · simp only [if_neg hc]
      exact (remr_1 hin hp hl h h1 hc).mono fun e w' H => H.istep hev hp h (by decide) (fun _ => ⟨rfl, rfl, rfl⟩)
  · simp only [h1, show ¬ (2 : Int) = 1 by decide, if_false, if_true]
    exact (remr_2 hin hp hl h h1).mono fun e w' H => H.istep hev hp h (by decide) (fun _ => ⟨rfl, rfl, rfl⟩)
  · simp only [h1, show ¬ (3 : Int) = 1 by decide, show ¬ (3 : Int) = 2 by decide, if_false, if_true]
    exact (remr_3 hin hp hl h h1).mono fun e w' H => H.istep hev hp h (by decide) (fun _ => ⟨rfl, rfl, rfl⟩)
  · simp only [h1, show ¬ (4 : Int) = 1 by decide, show ¬ (4 : Int) = 2 by decide, show ¬ (4 : Int) = 3 by decide, if_false, if_true]
    have hz := ho.z (by omega)
    by_cases hc : f.fn = 1
    · simp only [if_pos hc]
      exact (remr_4d hin hp hl h h1 ho.u.1 hev hn hB hc).mono fun e w' H => H.istep (fun h => by cases h)
    · simp only [if_neg hc]
      have hfr : ∀ L : Int, ({ f with ln := L } : Fra) = { f with fi := 0, ln := L } := by
        intro L
        rw [← hz]
      unfold childN
      by_cases hx : wrap64 (wrap64 (2 * f.fi) + 1) < wrap64 (f.fn - 1)
      · have hx' := hx
        rw [hz] at hx'
        simp only [if_pos hx']
        exact (remr_4y hin hp hl h h1 ho.u.1 hev hn hB hc hx).mono fun e w' H => H.istep (fun _ => ⟨hfr 5, rfl, rfl⟩)
      · have hx' := hx
        rw [hz] at hx'
        simp only [if_neg hx']
        exact (remr_4n hin hp hl h h1 ho.u.1 hev hn hB hc hx).mono fun e w' H => H.istep (fun _ => ⟨hfr 8, rfl, rfl⟩)
  · simp only [h1, show ¬ (5 : Int) = 1 by decide, show ¬ (5 : Int) = 2 by decide, show ¬ (5 : Int) = 3 by decide, show ¬ (5 : Int) = 4 by decide, if_false, if_true]
    have hw := w64_child (2 * f.fi)
    by_cases hc : wrap64 (f.fn - 1) ≤ wrap64 (wrap64 (2 * f.fi) + 2)
    · simp only [if_pos hc]
      unfold lessN
      by_cases hx : s.old (rSlot c (wrap64 (wrap64 (2 * f.fi) + 1))) < f.fv
      · simp only [if_pos hx]
        exact (remr_5y hin hp hl h h1 (by rw [hw]; omega) hx).mono fun e w' H => H.istep hev hp h (by decide) (fun _ => ⟨rfl, rfl, rfl⟩)
      · simp only [if_neg hx]
        exact (remr_5n hin hp hl h h1 (by rw [hw]; omega) hx).mono fun e w' H => H.istep hev hp h (by decide) (fun _ => ⟨rfl, rfl, rfl⟩)
    · simp only [if_neg hc]
      exact (remr_5m hin hp hl h h1 (by rw [hw]; omega)).mono fun e w' H => H.istep hev hp h (by decide) (fun _ => ⟨rfl, rfl, rfl⟩)
  · simp only [h1, show ¬ (6 : Int) = 1 by decide, show ¬ (6 : Int) = 2 by decide, show ¬ (6 : Int) = 3 by decide, show ¬ (6 : Int) = 4 by decide, show ¬ (6 : Int) = 5 by decide, if_false, if_true]
    have hj := (ho.c6 h1).1
    have hi := ho.fi
    have e6 : wrap64 (wrap64 (2 * f.fi) + 2) = wrap64 (f.fj + 1) := by rw [hj]; unfold wrap64; omega
    rw [e6]
    unfold lessN
    by_cases hc : s.old (rSlot c (wrap64 (f.fj + 1))) < f.fw
    · simp only [if_pos hc]
      by_cases hx : s.old (rSlot c (wrap64 (f.fj + 1))) < f.fv
      · simp only [if_pos hx]
        exact (remr_6yy hin hp hl h h1 hc hx).mono fun e w' H => H.istep hev hp h (by decide) (fun _ => ⟨rfl, rfl, rfl⟩)
      · simp only [if_neg hx]
        exact (remr_6yn hin hp hl h h1 hc hx).mono fun e w' H => H.istep hev hp h (by decide) (fun _ => ⟨rfl, rfl, rfl⟩)
    · simp only [if_neg hc]
      by_cases hx : f.fw < f.fv
      · simp only [if_pos hx]
        exact (remr_6ny hin hp hl h h1 hc hx).mono fun e w' H => H.istep hev hp h (by decide) (fun _ => ⟨rfl, rfl, rfl⟩)
      · simp only [if_neg hx]
        exact (remr_6nn hin hp hl h h1 hc hx).mono fun e w' H => H.istep hev hp h (by decide) (fun _ => ⟨rfl, rfl, rfl⟩)
  · simp only [h1, show ¬ (7 : Int) = 1 by decide, show ¬ (7 : Int) = 2 by decide, show ¬ (7 : Int) = 3 by decide, show ¬ (7 : Int) = 4 by decide, show ¬ (7 : Int) = 5 by decide, show ¬ (7 : Int) = 6 by decide, if_false, if_true]
    unfold childN
    by_cases hc : wrap64 (wrap64 (2 * f.fj) + 1) < wrap64 (f.fn - 1)
    · simp only [if_pos hc]
      exact (remr_7y hin hp hl h h1 hc).mono fun e w' H => H.istep hev hp h (by decide) (fun _ => ⟨rfl, rfl, rfl⟩)
    · simp only [if_neg hc]
      exact (remr_7n hin hp hl h h1 hc).mono fun e w' H => H.istep hev hp h (by decide) (fun _ => ⟨rfl, rfl, rfl⟩)
  · simp only [h1, show ¬ (8 : Int) = 1 by decide, show ¬ (8 : Int) = 2 by decide, show ¬ (8 : Int) = 3 by decide, show ¬ (8 : Int) = 4 by decide, show ¬ (8 : Int) = 5 by decide, show ¬ (8 : Int) = 6 by decide, show ¬ (8 : Int) = 7 by decide, if_false, if_true]
    exact (remr_8 hin hp hl h h1 ho.u.1).mono fun e w' H => H.istep hev hp h (by decide) (fun h => by cases h)
end
end Go.Proofs.Ytanbjdlaolgepaa
