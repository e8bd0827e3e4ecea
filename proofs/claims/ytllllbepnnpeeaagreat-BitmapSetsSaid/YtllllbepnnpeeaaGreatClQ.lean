/-
  Plain mathematics of one deque: what a steal alone does; how a pop and a steal that meet at the last entry end. No function is named.
-/
import Derived.Test.YtllllbepnnpeeaaGreatClT
namespace Go.Proofs.YtllllbepnnpeeaaGreat
open Go Go.RowKit
set_option linter.unusedSimpArgs false
set_option linter.unusedVariables false

section
variable {s : St} {f : Fra}
theorem stealS_1 (h : f.ln = 1) : stealS s f = (s.go 1 f.qt id, { f with fv := s.old f.qt, ln := 2 }, .none) := by
  unfold stealS
  rw [if_pos h]
theorem stealS_2e (h : f.ln = 2) (hc : sizeI (s.old f.qb) f.fv ≤ 0) : stealS s f = (s.go 1 f.qb id, { f with fu := s.old f.qb }, ⟨true, 2, 0⟩) := by
  unfold stealS
  rw [if_neg (by omega), if_pos h, if_pos hc]
theorem stealS_2 (h : f.ln = 2) (hc : ¬ sizeI (s.old f.qb) f.fv ≤ 0) : stealS s f = (s.go 1 f.qb id, { f with fu := s.old f.qb, ln := 3 }, .none) := by
  unfold stealS
  rw [if_neg (by omega), if_pos h, if_neg hc]
theorem stealS_3 (h : f.ln = 3) : stealS s f = (s.go 1 (ringI f.qr f.qc f.fv) id, { f with fw := s.old (ringI f.qr f.qc f.fv), ln := 4 }, .none) := by
  unfold stealS
  rw [if_neg (by omega), if_neg (by omega), if_pos h]
theorem stealS_4 (h : f.ln = 4) : stealS s f = (s.go 3 f.qt (fun x => if x = f.fv then add1 f.fv else x), f, if s.hit f.qt f.fv then ⟨true, 1, wrap64 f.fw⟩ else ⟨true, 4, 0⟩) := by
  unfold stealS
  rw [if_neg (by omega), if_neg (by omega), if_neg (by omega)]
end
section
variable {s : St} {n t : Nat} {l : List Int}
theorem DQ.has0 (h : DQ s n t l) : s.has 0 := h.hasN (j := 0) (by have := h.nn; omega)
theorem DQ.steal_none (h : DQ s n t []) (kd : Int) : ∃ s', runS stealS 20 s (fra1 kd 0 1 2 n 0) = some (s', ⟨true, 2, 0⟩, 2) ∧ DQ s' n t [] := by
  have e1 : stealS s (fra1 kd 0 1 2 n 0) = _ := stealS_1 rfl
  have h1 := h.load 1 0
  have hsz : sizeI ((s.go 1 0 id).old 1) (s.old 0) = 0 := by
    rw [h1.bot, h.top]
    simp [sizeI, IntKind.wrap_u64, wrap64]
  have e2 := stealS_2e (s := s.go 1 0 id) (f := { fra1 kd 0 1 2 n 0 with fv := s.old 0, ln := 2 }) rfl (by show sizeI ((s.go 1 0 id).old 1) (s.old 0) ≤ 0; omega)
  exact ⟨_, runS_cons e1 (runS_last e2 rfl), h1.load 1 1⟩
theorem DQ.steal {x : Int} (h : DQ s n t (x :: l)) (hb : t + l.length < 18446744073709551000) (kd : Int) : ∃ s', runS stealS 20 s (fra1 kd 0 1 2 n 0) = some (s', ⟨true, 1, wrap64 x⟩, 4) ∧ DQ s' n (t + 1) l := by
  have hn := h.nn
  have hcap := h.cap
  simp only [List.length_cons] at hcap
  have e1 : stealS s (fra1 kd 0 1 2 n 0) = _ := stealS_1 rfl
  have h1 := h.load 1 0
  have hsz : sizeI ((s.go 1 0 id).old 1) (s.old 0) = (l.length : Int) + 1 := by
    rw [h1.bot, h.top, size_of (by omega) (by simp; omega)]
    simp
  have h2 := h1.load 1 1
  obtain ⟨s2, hs2⟩ : ∃ s2, (s.go 1 0 id).go 1 1 id = s2 := ⟨_, rfl⟩
  have e2 : stealS (s.go 1 0 id) { fra1 kd 0 1 2 n 0 with fv := s.old 0, ln := 2 } = (s2, { fra1 kd 0 1 2 n 0 with fv := s.old 0, fu := (s.go 1 0 id).old 1, ln := 3 }, .none) := by
    rw [← hs2]
    exact stealS_2 rfl (by show ¬ sizeI ((s.go 1 0 id).old 1) (s.old 0) ≤ 0; omega)
  rw [hs2] at h2
  have h3 := h2.load 1 (ringI 2 n (s.old 0))
  have e3 := stealS_3 (s := s2) (f := { fra1 kd 0 1 2 n 0 with fv := s.old 0, fu := (s.go 1 0 id).old 1, ln := 3 }) rfl
  obtain ⟨s3, hs3⟩ : ∃ s3, s2.go 1 (ringI 2 n (s.old 0)) id = s3 := ⟨_, rfl⟩
  have hw : s2.old (ringI 2 n (s.old 0)) = x := by
    rw [h.top, ring_of n hn]
    have := h2.ent 0 (by simp)
    rw [Nat.add_zero] at this
    rw [this]
    rfl
  have e3' : stealS s2 { fra1 kd 0 1 2 n 0 with fv := s.old 0, fu := (s.go 1 0 id).old 1, ln := 3 } = (s3, { fra1 kd 0 1 2 n 0 with fv := s.old 0, fu := (s.go 1 0 id).old 1, fw := x, ln := 4 }, .none) := by
    rw [e3, ← hs3]
    show (_, _, _) = (_, _, _)
    rw [show ({ fra1 kd 0 1 2 n 0 with fv := s.old 0, fu := (s.go 1 0 id).old 1, ln := 3 } : Fra).qr = 2 from rfl]
    show (_, ({ fra1 kd 0 1 2 n 0 with fv := s.old 0, fu := (s.go 1 0 id).old 1, fw := s2.old (ringI 2 n (s.old 0)), ln := 4 } : Fra), _) = (_, _, _)
    rw [hw]
  rw [hs3] at h3
  have hhit : s3.hit 0 (s.old 0) = true := by
    unfold St.hit
    rw [decide_eq_true h3.has0, h3.top, h.top]
    simp
  have e4 : stealS s3 { fra1 kd 0 1 2 n 0 with fv := s.old 0, fu := (s.go 1 0 id).old 1, fw := x, ln := 4 } = (s3.go 3 0 (fun y => if y = s.old 0 then add1 (s.old 0) else y), { fra1 kd 0 1 2 n 0 with fv := s.old 0, fu := (s.go 1 0 id).old 1, fw := x, ln := 4 }, ⟨true, 1, wrap64 x⟩) := by
    rw [stealS_4 rfl]
    show (_, _, (if s3.hit 0 (s.old 0) then _ else _)) = _
    rw [hhit]
    rfl
  refine ⟨_, runS_cons e1 (runS_cons e2 (runS_cons e3' (runS_last e4 rfl))), ?_⟩
  rw [h.top]
  refine ⟨by rw [go_len]; exact h3.len, ?_, ?_, by omega, fun i hi => ?_, hn⟩
  · rw [go_old _ _ _ _ h3.has0, h3.top, if_pos rfl]
    show IntKind.u64.wrap _ = _
    rw [IntWalk.u64_in _ (by omega)]
    omega
  · rw [go_other _ _ _ _ _ (by omega), h3.bot]
    simp
    omega
  · rw [go_other _ _ _ _ _ (by omega)]
    have := h3.ent (i + 1) (by simp; omega)
    rw [show t + (i + 1) = t + 1 + i by omega] at this
    rw [this]
    simp
end

/-- A pop and a steal at one entry e, whatever the order of their steps: where both stand. -/
def Meet (s : St) (t0 : Nat) (e : Int) (x y : Mach) (a b : Option Res) : Prop :=
  ∃ T L cl, CL s 3 t0 T L ∧ OW s 3 T L cl x.own ∧ (y = .no ∨ ∃ f, y = .steal f ∧ TH 3 t0 T L f) ∧
    ((x = .no ∧ ∃ r, a = some r) ∨ ∃ f, x = .pop f ∧ a = none) ∧ (y = .no → ∃ r, b = some r) ∧ (y ≠ .no → b = none) ∧
    ((L = [e] ∧ cl = none ∧ (∀ r, a = some r → False) ∧ (∀ r, b = some r → r.cd ≠ 1)) ∨
     (L = [] ∧ cl = some e ∧ (∀ r, a = some r → False) ∧ (∀ r, b = some r → r.cd ≠ 1)) ∨
     (L = [] ∧ cl = none ∧ (∃ r, a = some r ∧ r.cd = 1 ∧ r.vl = IntKind.i64.wrap e) ∧ (∀ r, b = some r → r.cd ≠ 1)) ∨
     (L = [] ∧ cl = none ∧ (∀ r, a = some r → r.cd ≠ 1) ∧ (∃ r, b = some r ∧ r.cd = 1 ∧ r.vl = wrap64 e)))
theorem Meet.begin {s : St} {t0 : Nat} {e : Int} {f g : Fra} (hs : CL s 3 t0 t0 [e]) (hb : s.old 1 = ((t0 + 1 : Nat) : Int)) (hf : f.qt = 0 ∧ f.qb = 1 ∧ f.qr = 2 ∧ f.qc = (3 : Nat)) (hf1 : f.ln = 1) (hg : g.qt = 0 ∧ g.qb = 1 ∧ g.qr = 2 ∧ g.qc = (3 : Nat)) (hg1 : g.ln = 1) :
    Meet s t0 e (.pop f) (.steal g) none none :=
  ⟨t0, [e], none, hs, ⟨hf.1, hf.2.1, hf.2.2.1, hf.2.2.2, .inl ⟨hf1, hb, rfl⟩⟩, .inr ⟨g, rfl, hg.1, hg.2.1, hg.2.2.1, hg.2.2.2, .inl hg1⟩, .inr ⟨f, rfl, rfl⟩, fun h => (by cases h), fun _ => rfl, .inl ⟨rfl, rfl, fun r h => (by cases h), fun r h => (by cases h)⟩⟩
theorem Meet.pop {s : St} {t0 : Nat} {e : Int} {f : Fra} {y : Mach} {b : Option Res} (h : Meet s t0 e (.pop f) y none b) :
    ((popS s f).2.2.dn = false → Meet (popS s f).1 t0 e (.pop (popS s f).2.1) y none b) ∧
    ((popS s f).2.2.dn = true → Meet (popS s f).1 t0 e .no y (some (popS s f).2.2) b) := by
  obtain ⟨T, L, cl, hc, ho, hy, hx, hb1, hb2, hcase⟩ := h
  obtain ⟨T', L', cl', k0, k1, k2, k3, k4⟩ := Go.Proofs.YtllllbepnnpeeaaGreat.pop_step hc ho
  have hy' : y = .no ∨ ∃ g, y = .steal g ∧ TH 3 t0 T' L' g := by
    rcases hy with e | ⟨g, e, kg⟩
    · exact .inl e
    · exact .inr ⟨g, e, k2 g kg⟩
  refine ⟨fun hd => ?_, fun hd => ?_⟩
  · obtain ⟨e1, e2⟩ := k3 hd
    refine ⟨T', L', cl', k1, e1, hy', .inr ⟨_, rfl, rfl⟩, hb1, hb2, ?_⟩
    rcases e2 with ⟨rfl, rfl⟩ | ⟨rfl, x, rfl, e2⟩
    · exact hcase
    · rcases hcase with ⟨rfl, _, ha, hb⟩ | ⟨_, hh, _⟩ | ⟨_, _, ⟨r, hr, _⟩, _⟩ | ⟨rfl, _, _, _⟩
      · have hx : L' = [] ∧ x = e := by
          rcases e2 with e2 | e2
          · cases L' with
            | nil => simp at e2; exact ⟨rfl, e2.symm⟩
            | cons z zs => simp at e2
          · simp at e2
            exact ⟨e2.2, e2.1.symm⟩
        rw [hx.1, hx.2]
        exact .inr (.inl ⟨rfl, rfl, ha, hb⟩)
      · cases hh
      · cases hr
      · rcases e2 with e2 | e2 <;> simp at e2
  · obtain ⟨e1, rfl, e3⟩ := k4 hd
    refine ⟨T', L', none, k1, ⟨e1, rfl⟩, hy', .inl ⟨rfl, _, rfl⟩, hb1, hb2, ?_⟩
    rcases e3 with ⟨c1, x, rfl, ev⟩ | ⟨c0, c1, rfl, rfl⟩
    · rcases hcase with ⟨_, hh, _⟩ | ⟨rfl, hh, ha, hb⟩ | ⟨_, hh, _⟩ | ⟨_, hh, _⟩
      · cases hh
      · injection hh with hh
        subst hh
        exact .inr (.inr (.inl ⟨rfl, rfl, ⟨_, rfl, c1, ev⟩, hb⟩))
      · cases hh
      · cases hh
    · rcases hcase with ⟨hh, _⟩ | ⟨_, hh, _⟩ | ⟨_, _, ⟨r, hr, _⟩, _⟩ | ⟨_, _, _, hb⟩
      · cases hh
      · cases hh
      · cases hr
      · exact .inr (.inr (.inr ⟨rfl, rfl, fun r hr => by injection hr with hr; subst hr; exact c1, hb⟩))
theorem Meet.steal {s : St} {t0 : Nat} {e : Int} {f : Fra} {x : Mach} {a : Option Res} (h : Meet s t0 e x (.steal f) a none) :
    ((stealS s f).2.2.dn = false → Meet (stealS s f).1 t0 e x (.steal (stealS s f).2.1) a none) ∧
    ((stealS s f).2.2.dn = true → Meet (stealS s f).1 t0 e x .no a (some (stealS s f).2.2)) := by
  obtain ⟨T, L, cl, hc, ho, hy, hx, hb1, hb2, hcase⟩ := h
  have hf : TH 3 t0 T L f := by
    rcases hy with e | ⟨g, e, kg⟩
    · cases e
    · injection e with e
      rw [e]
      exact kg
  obtain ⟨T', L', k0, k1, k2, k3, k4, k5⟩ := thief_step hc ho hf
  refine ⟨fun hd => ?_, fun hd => ?_⟩
  · obtain ⟨e1, rfl⟩ := k4 hd
    exact ⟨T', L', cl, k1, k2, .inr ⟨_, rfl, e1⟩, hx, fun h => (by cases h), fun _ => rfl, hcase⟩
  · refine ⟨T', L', cl, k1, k2, .inl rfl, hx, fun _ => ⟨_, rfl⟩, fun h => absurd rfl h, ?_⟩
    rcases k5 hd with ⟨c1, z, e2, ev⟩ | ⟨c1, rfl⟩
    · rcases hcase with ⟨rfl, hcl, ha, hb⟩ | ⟨rfl, _⟩ | ⟨rfl, _⟩ | ⟨rfl, _⟩
      · injection e2 with e2 e3
        subst e2 e3
        exact .inr (.inr (.inr ⟨rfl, hcl, fun r hr => (ha r hr).elim, ⟨_, rfl, c1, ev⟩⟩))
      · cases e2
      · cases e2
      · cases e2
    · have hb' : ∀ r, some (stealS s f).2.2 = some r → r.cd ≠ 1 := fun r hr => by injection hr with hr; subst hr; exact c1
      rcases hcase with ⟨a1, a2, a3, a4⟩ | ⟨a1, a2, a3, a4⟩ | ⟨a1, a2, a3, a4⟩ | ⟨a1, a2, a3, ⟨r, hr, _⟩⟩
      · exact .inl ⟨a1, a2, a3, hb'⟩
      · exact .inr (.inl ⟨a1, a2, a3, hb'⟩)
      · exact .inr (.inr (.inl ⟨a1, a2, a3, hb'⟩))
      · cases hr
/-- When both are done, one of them alone has the entry. -/
theorem Meet.done {s : St} {t0 : Nat} {e : Int} {a b : Res} (h : Meet s t0 e .no .no (some a) (some b)) :
    (a.cd = 1 ∧ a.vl = IntKind.i64.wrap e ∧ b.cd ≠ 1) ∨ (a.cd ≠ 1 ∧ b.cd = 1 ∧ b.vl = wrap64 e) := by
  obtain ⟨T, L, cl, hc, ho, hy, hx, hb1, hb2, hcase⟩ := h
  rcases hcase with ⟨_, _, ha, _⟩ | ⟨_, _, ha, _⟩ | ⟨_, _, ⟨r, hr, c1, v1⟩, hb⟩ | ⟨_, _, ha, ⟨r, hr, c1, v1⟩⟩
  · exact (ha a rfl).elim
  · exact (ha a rfl).elim
  · injection hr with hr
    subst hr
    exact .inl ⟨c1, v1, hb b rfl⟩
  · injection hr with hr
    subst hr
    exact .inr ⟨ha a rfl, c1, v1⟩
end Go.Proofs.YtllllbepnnpeeaaGreat
