/-
  Plain mathematics of one deque: what a steal alone does; how a pop and a steal that meet at the last entry end. No function is named.
  Stage 10: awake.
-/
import Derived.Test.YtplifdmfoeejaaaGreatMgBJ
import Derived.Test.YtplifdmfoeejaaaGreatMgBH
import Derived.Test.YtplifdmfoeejaaaGreatMgBE
namespace Go.Proofs.YtplifdmfoeejaaaGreat
open Go Go.RowKit
set_option linter.unusedSimpArgs false
set_option linter.unusedVariables false

section
variable {s : St} {f : Fra}
theorem stealS_1 (h : f.ln = 1) : stealS s f = (s.go 1 f.qt id, { f with fv := s.old f.qt, ln := 2 }, .none) := by
  unfold stealS
  rw [if_pos h]
theorem stealS_2e (h : f.ln = 2) (hc : sizeI (s.old f.qb) f.fv ≤ 0) : stealS s f = (s.go 1 f.qb id, { f with fu := s.old f.qb }, ⟨true, 2, 0⟩) := by
  unfold stealS
  rw [if_neg (by omega), if_pos h, if_pos hc]
theorem stealS_2 (h : f.ln = 2) (hc : ¬ sizeI (s.old f.qb) f.fv ≤ 0) : stealS s f = (s.go 1 f.qb id, { f with fu := s.old f.qb, ln := 3 }, .none) := by
  unfold stealS
  rw [if_neg (by omega), if_pos h, if_neg hc]
theorem stealS_3 (h : f.ln = 3) : stealS s f = (s.go 1 (ringI f.qr f.qc f.fv) id, { f with fw := s.old (ringI f.qr f.qc f.fv), ln := 4 }, .none) := by
  unfold stealS
  rw [if_neg (by omega), if_neg (by omega), if_pos h]
theorem stealS_4 (h : f.ln = 4) : stealS s f = (s.go 3 f.qt (fun x => if x = f.fv then add1 f.fv else x), f, if s.hit f.qt f.fv then ⟨true, 1, wrap64 f.fw⟩ else ⟨true, 4, 0⟩) := by
  unfold stealS
  rw [if_neg (by omega), if_neg (by omega), if_neg (by omega)]
end
section
variable {s : St} {n t : Nat} {l : List Int}
theorem DQ.has0 (h : DQ s n t l) : s.has 0 := h.hasN (j := 0) (by have := h.nn; omega)
theorem DQ.steal_none (h : DQ s n t []) (kd : Int) : ∃ s', runS stealS 20 s (fra1 kd 0 1 2 n 0) = some (s', ⟨true, 2, 0⟩, 2) ∧ DQ s' n t [] := by
  have e1 : stealS s (fra1 kd 0 1 2 n 0) = _ := stealS_1 rfl
  have h1 := h.load 1 0
  have hsz : sizeI ((s.go 1 0 id).old 1) (s.old 0) = 0 := by
    rw [h1.bot, h.top]
    simp [sizeI, IntKind.wrap_u64, wrap64]
  have e2 := stealS_2e (s := s.go 1 0 id) (f := { fra1 kd 0 1 2 n 0 with fv := s.old 0, ln := 2 }) rfl (by show sizeI ((s.go 1 0 id).old 1) (s.old 0) ≤ 0; omega)
  exact ⟨_, runS_cons e1 (runS_last e2 rfl), h1.load 1 1⟩
theorem DQ.steal {x : Int} (h : DQ s n t (x :: l)) (hb : t + l.length < 18446744073709551000) (kd : Int) : ∃ s', runS stealS 20 s (fra1 kd 0 1 2 n 0) = some (s', ⟨true, 1, wrap64 x⟩, 4) ∧ DQ s' n (t + 1) l := by
  have hn := h.nn
  have hcap := h.cap
  simp only [List.length_cons] at hcap
  have e1 : stealS s (fra1 kd 0 1 2 n 0) = _ := stealS_1 rfl
  have h1 := h.load 1 0
  have hsz : sizeI ((s.go 1 0 id).old 1) (s.old 0) = (l.length : Int) + 1 := by
    rw [h1.bot, h.top, size_of (by omega) (by simp; omega)]
    simp
  have h2 := h1.load 1 1
  obtain ⟨s2, hs2⟩ : ∃ s2, (s.go 1 0 id).go 1 1 id = s2 := ⟨_, rfl⟩
  have e2 : stealS (s.go 1 0 id) { fra1 kd 0 1 2 n 0 with fv := s.old 0, ln := 2 } = (s2, { fra1 kd 0 1 2 n 0 with fv := s.old 0, fu := (s.go 1 0 id).old 1, ln := 3 }, .none) := by
    rw [← hs2]
    exact stealS_2 rfl (by show ¬ sizeI ((s.go 1 0 id).old 1) (s.old 0) ≤ 0; omega)
  rw [hs2] at h2
  have h3 := h2.load 1 (ringI 2 n (s.old 0))
  have e3 := stealS_3 (s := s2) (f := { fra1 kd 0 1 2 n 0 with fv := s.old 0, fu := (s.go 1 0 id).old 1, ln := 3 }) rfl
  obtain ⟨s3, hs3⟩ : ∃ s3, s2.go 1 (ringI 2 n (s.old 0)) id = s3 := ⟨_, rfl⟩
  have hw : s2.old (ringI 2 n (s.old 0)) = x := by
    rw [h.top, ring_of n hn]
    have := h2.ent 0 (by simp)
    rw [Nat.add_zero] at this
    rw [this]
    rfl
  have e3' : stealS s2 { fra1 kd 0 1 2 n 0 with fv := s.old 0, fu := (s.go 1 0 id).old 1, ln := 3 } = (s3, { fra1 kd 0 1 2 n 0 with fv := s.old 0, fu := (s.go 1 0 id).old 1, fw := x, ln := 4 }, .none) := by
    rw [e3, ← hs3]
    show (_, _, _) = (_, _, _)
    rw [show ({ fra1 kd 0 1 2 n 0 with fv := s.old 0, fu := (s.go 1 0 id).old 1, ln := 3 } : Fra).qr = 2 from rfl]
    show (_, ({ fra1 kd 0 1 2 n 0 with fv := s.old 0, fu := (s.go 1 0 id).old 1, fw := s2.old (ringI 2 n (s.old 0)), ln := 4 } : Fra), _) = (_, _, _)
    rw [hw]
  rw [hs3] at h3
  have hhit : s3.hit 0 (s.old 0) = true := by
    unfold St.hit
    rw [decide_eq_true h3.has0, h3.top, h.top]
    simp
  have e4 : stealS s3 { fra1 kd 0 1 2 n 0 with fv := s.old 0, fu := (s.go 1 0 id).old 1, fw := x, ln := 4 } = (s3.go 3 0 (fun y => if y = s.old 0 then add1 (s.old 0) else y), { fra1 kd 0 1 2 n 0 with fv := s.old 0, fu := (s.go 1 0 id).old 1, fw := x, ln := 4 }, ⟨true, 1, wrap64 x⟩) := by
    rw [stealS_4 rfl]
    show (_, _, (if s3.hit 0 (s.old 0) then _ else _)) = _
    rw [hhit]
    rfl
  refine ⟨_, runS_cons e1 (runS_cons e2 (runS_cons e3' (runS_last e4 rfl))), ?_⟩
  rw [h.top]
  refine ⟨by rw [go_len]; exact h3.len, ?_, ?_, by omega, fun i hi => ?_, hn⟩
  · rw [go_old _ _ _ _ h3.has0, h3.top, if_pos rfl]
    show IntKind.u64.wrap _ = _
    rw [IntWalk.u64_in _ (by omega)]
    omega
  · rw [go_other _ _ _ _ _ (by omega), h3.bot]
    simp
    omega
  · rw [go_other _ _ _ _ _ (by omega)]
    have := h3.ent (i + 1) (by simp; omega)
    rw [show t + (i + 1) = t + 1 + i by omega] at this
    rw [this]
    simp
end

/-- A pop and a steal at one entry e, whatever the order of their steps: where both stand. -/
def Meet (s : St) (t0 : Nat) (e : Int) (x y : Mach) (a b : Option Res) : Prop :=
  ∃ T L cl, CL s 3 t0 T L ∧ OW s 3 T L cl x.own ∧ (y = .no ∨ ∃ f, y = .steal f ∧ TH 3 t0 T L f) ∧
    ((x = .no ∧ ∃ r, a = some r) ∨ ∃ f, x = .pop f ∧ a = none) ∧ (y = .no → ∃ r, b = some r) ∧ (y ≠ .no → b = none) ∧
    ((L = [e] ∧ cl = none ∧ (∀ r, a = some r → False) ∧ (∀ r, b = some r → r.cd ≠ 1)) ∨
     (L = [] ∧ cl = some e ∧ (∀ r, a = some r → False) ∧ (∀ r, b = some r → r.cd ≠ 1)) ∨
     (L = [] ∧ cl = none ∧ (∃ r, a = some r ∧ r.cd = 1 ∧ r.vl = IntKind.i64.wrap e) ∧ (∀ r, b = some r → r.cd ≠ 1)) ∨
     (L = [] ∧ cl = none ∧ (∀ r, a = some r → r.cd ≠ 1) ∧ (∃ r, b = some r ∧ r.cd = 1 ∧ r.vl = wrap64 e)))
theorem Meet.begin {s : St} {t0 : Nat} {e : Int} {f g : Fra} (hs : CL s 3 t0 t0 [e]) (hb : s.old 1 = ((t0 + 1 : Nat) : Int)) (hf : f.qt = 0 ∧ f.qb = 1 ∧ f.qr = 2 ∧ f.qc = (3 : Nat)) (hf1 : f.ln = 1) (hg : g.qt = 0 ∧ g.qb = 1 ∧ g.qr = 2 ∧ g.qc = (3 : Nat)) (hg1 : g.ln = 1) :
    Meet s t0 e (.pop f) (.steal g) none none :=
  ⟨t0, [e], none, hs, ⟨hf.1, hf.2.1, hf.2.2.1, hf.2.2.2, .inl ⟨hf1, hb, rfl⟩⟩, .inr ⟨g, rfl, hg.1, hg.2.1, hg.2.2.1, hg.2.2.2, .inl hg1⟩, .inr ⟨f, rfl, rfl⟩, fun h => (by cases h), fun _ => rfl, .inl ⟨rfl, rfl, fun r h => (by cases h), fun r h => (by cases h)⟩⟩
theorem Meet.pop {s : St} {t0 : Nat} {e : Int} {f : Fra} {y : Mach} {b : Option Res} (h : Meet s t0 e (.pop f) y none b) :
    ((popS s f).2.2.dn = false → Meet (popS s f).1 t0 e (.pop (popS s f).2.1) y none b) ∧
    ((popS s f).2.2.dn = true → Meet (popS s f).1 t0 e .no y (some (popS s f).2.2) b) := by
  obtain ⟨T, L, cl, hc, ho, hy, hx, hb1, hb2, hcase⟩ := h
  obtain ⟨T', L', cl', k0, k1, k2, k3, k4⟩ := Go.Proofs.YtplifdmfoeejaaaGreat.pop_step hc ho
  have hy' : y = .no ∨ ∃ g, y = .steal g ∧ TH 3 t0 T' L' g := by
    rcases hy with e | ⟨g, e, kg⟩
    · exact .inl e
    · exact .inr ⟨g, e, k2 g kg⟩
  refine ⟨fun hd => ?_, fun hd => ?_⟩
  · obtain ⟨e1, e2⟩ := k3 hd
    refine ⟨T', L', cl', k1, e1, hy', .inr ⟨_, rfl, rfl⟩, hb1, hb2, ?_⟩
    rcases e2 with ⟨rfl, rfl⟩ | ⟨rfl, x, rfl, e2⟩
    · exact hcase
    · rcases hcase with ⟨rfl, _, ha, hb⟩ | ⟨_, hh, _⟩ | ⟨_, _, ⟨r, hr, _⟩, _⟩ | ⟨rfl, _, _, _⟩
      · have hx : L' = [] ∧ x = e := by
          rcases e2 with e2 | e2
          · cases L' with
            | nil => simp at e2; exact ⟨rfl, e2.symm⟩
            | cons z zs => simp at e2
          · simp at e2
            exact ⟨e2.2, e2.1.symm⟩
        rw [hx.1, hx.2]
        exact .inr (.inl ⟨rfl, rfl, ha, hb⟩)
      · cases hh
      · cases hr
      · rcases e2 with e2 | e2 <;> simp at e2
  · obtain ⟨e1, rfl, e3⟩ := k4 hd
    refine ⟨T', L', none, k1, ⟨e1, rfl⟩, hy', .inl ⟨rfl, _, rfl⟩, hb1, hb2, ?_⟩
    rcases e3 with ⟨c1, x, rfl, ev⟩ | ⟨c0, c1, rfl, rfl⟩
    · rcases hcase with ⟨_, hh, _⟩ | ⟨rfl, hh, ha, hb⟩ | ⟨_, hh, _⟩ | ⟨_, hh, _⟩
      · cases hh
      · injection hh with hh
        subst hh
        exact .inr (.inr (.inl ⟨rfl, rfl, ⟨_, rfl, c1, ev⟩, hb⟩))
      · cases hh
      · cases hh
    · rcases hcase with ⟨hh, _⟩ | ⟨_, hh, _⟩ | ⟨_, _, ⟨r, hr, _⟩, _⟩ | ⟨_, _, _, hb⟩
      · cases hh
      · cases hh
      · cases hr
      · exact .inr (.inr (.inr ⟨rfl, rfl, fun r hr => by injection hr with hr; subst hr; exact c1, hb⟩))
theorem Meet.steal {s : St} {t0 : Nat} {e : Int} {f : Fra} {x : Mach} {a : Option Res} (h : Meet s t0 e x (.steal f) a none) :
    ((stealS s f).2.2.dn = false → Meet (stealS s f).1 t0 e x (.steal (stealS s f).2.1) a none) ∧
    ((stealS s f).2.2.dn = true → Meet (stealS s f).1 t0 e x .no a (some (stealS s f).2.2)) := by
  obtain ⟨T, L, cl, hc, ho, hy, hx, hb1, hb2, hcase⟩ := h
  have hf : TH 3 t0 T L f := by
    rcases hy with e | ⟨g, e, kg⟩
    · cases e
    · injection e with e
      rw [e]
      exact kg
  obtain ⟨T', L', k0, k1, k2, k3, k4, k5⟩ := thief_step hc ho hf
  refine ⟨fun hd => ?_, fun hd => ?_⟩
  · obtain ⟨e1, rfl⟩ := k4 hd
    exact ⟨T', L', cl, k1, k2, .inr ⟨_, rfl, e1⟩, hx, fun h => (by cases h), fun _ => rfl, hcase⟩
  · refine ⟨T', L', cl, k1, k2, .inl rfl, hx, fun _ => ⟨_, rfl⟩, fun h => absurd rfl h, ?_⟩
    rcases k5 hd with ⟨c1, z, e2, ev⟩ | ⟨c1, rfl⟩
    · rcases hcase with ⟨rfl, hcl, ha, hb⟩ | ⟨rfl, _⟩ | ⟨rfl, _⟩ | ⟨rfl, _⟩
      · injection e2 with e2 e3
        subst e2 e3
        exact .inr (.inr (.inr ⟨rfl, hcl, fun r hr => (ha r hr).elim, ⟨_, rfl, c1, ev⟩⟩))
      · cases e2
      · cases e2
      · cases e2
    · have hb' : ∀ r, some (stealS s f).2.2 = some r → r.cd ≠ 1 := fun r hr => by injection hr with hr; subst hr; exact c1
      rcases hcase with ⟨a1, a2, a3, a4⟩ | ⟨a1, a2, a3, a4⟩ | ⟨a1, a2, a3, a4⟩ | ⟨a1, a2, a3, ⟨r, hr, _⟩⟩
      · exact .inl ⟨a1, a2, a3, hb'⟩
      · exact .inr (.inl ⟨a1, a2, a3, hb'⟩)
      · exact .inr (.inr (.inl ⟨a1, a2, a3, hb'⟩))
      · cases hr
/-- When both are done, one of them alone has the entry. -/
theorem Meet.done {s : St} {t0 : Nat} {e : Int} {a b : Res} (h : Meet s t0 e .no .no (some a) (some b)) :
    (a.cd = 1 ∧ a.vl = IntKind.i64.wrap e ∧ b.cd ≠ 1) ∨ (a.cd ≠ 1 ∧ b.cd = 1 ∧ b.vl = wrap64 e) := by
  obtain ⟨T, L, cl, hc, ho, hy, hx, hb1, hb2, hcase⟩ := h
  rcases hcase with ⟨_, _, ha, _⟩ | ⟨_, _, ha, _⟩ | ⟨_, _, ⟨r, hr, c1, v1⟩, hb⟩ | ⟨_, _, ha, ⟨r, hr, c1, v1⟩⟩
  · exact (ha a rfl).elim
  · exact (ha a rfl).elim
  · injection hr with hr
    subst hr
    exact .inl ⟨c1, v1, hb b rfl⟩
  · injection hr with hr
    subst hr
    exact .inr ⟨ha a rfl, c1, v1⟩
end Go.Proofs.YtplifdmfoeejaaaGreat

namespace Go.Proofs.YtplifdmfoeejaaaGreat
open Go Go.RowKit Go.Shelf
set_option linter.unusedSimpArgs false
set_option linter.unusedVariables false

theorem stealOk1 (n : Int) (hn : n ≤ 100) : StealOk (fra1 2 0 1 2 n 0) := ⟨.inl rfl, Int.le_refl _, Int.le_refl _, by show n ≤ _; omega⟩
theorem inW_new (w : World) (ty : TypeId) (X : List Int) (h : X.length ≤ 1000) : InW (w.alloc (.cells (X.map (Value.int .u64)).toArray ty)) (some ⟨w.heap.size, 0, none⟩) X.length X := by
  refine ⟨rfl, by unfold maxLen; omega, fun i hi => ⟨⟨w.heap.size, 0, none⟩, rfl, by simp, ?_⟩⟩
  have e : (⟨w.heap.size, 0, none⟩ : Addr).add i = ⟨w.heap.size, i, none⟩ := by unfold Addr.add; split <;> simp_all
  rw [e, (Blk.made w ty _).at_ i, List.getElem?_toArray, List.getElem?_map, List.getD_eq_getElem?_getD, List.getElem?_eq_getElem hi]
  rfl
theorem dq_awake {s : St} (e : s.X = [0, 2, 5, 6]) : DQ s 2 0 [5, 6] := by
  have o : ∀ j : Nat, j < 4 → s.old j = [(0 : Int), 2, 5, 6].getD j 0 := fun j hj => by
    rw [old_len j (by rw [e]; exact hj), e]
  refine ⟨by rw [e]; decide, o 0 (by omega), o 1 (by omega), by decide, fun i hi => ?_, by omega⟩
  match i, hi with
  | 0, _ => exact o 2 (by omega)
  | 1, _ => exact o 3 (by omega)
  | i + 2, hi => exact absurd hi (by simp)
theorem awake_N {s : St} (e : s.X = [0, 2, 5, 6]) : s.N := Row.inNN (X := [0, 2, 5, 6]) (by decide) e
/-- The first three lines of a steal that finds an entry. -/
theorem DQ.steal3 {s : St} {n t : Nat} {l : List Int} {x : Int} (h : DQ s n t (x :: l)) (hb : t + l.length < 18446744073709551000) (kd : Int) : ∃ s1 f1 s2 f2 s3 u, stealS s (fra1 kd 0 1 2 n 0) = (s1, f1, .none) ∧ stealS s1 f1 = (s2, f2, .none) ∧
    stealS s2 f2 = (s3, { fra1 kd 0 1 2 n 0 with fv := t, fu := u, fw := x, ln := 4 }, .none) ∧ DQ s3 n t (x :: l) := by
  have hn := h.nn
  have e1 : stealS s (fra1 kd 0 1 2 n 0) = _ := stealS_1 rfl
  have h1 := h.load 1 0
  have hsz : sizeI ((s.go 1 0 id).old 1) (s.old 0) = (l.length : Int) + 1 := by
    have hcap := h.cap
    simp only [List.length_cons] at hcap
    rw [h1.bot, h.top, size_of (by omega) (by simp; omega)]
    simp
  have h2 := h1.load 1 1
  have e2 := stealS_2 (s := s.go 1 0 id) (f := { fra1 kd 0 1 2 n 0 with fv := s.old 0, ln := 2 }) rfl (by show ¬ sizeI ((s.go 1 0 id).old 1) (s.old 0) ≤ 0; omega)
  have e3 := stealS_3 (s := (s.go 1 0 id).go 1 1 id) (f := { fra1 kd 0 1 2 n 0 with fv := s.old 0, fu := (s.go 1 0 id).old 1, ln := 3 }) rfl
  have hw : ((s.go 1 0 id).go 1 1 id).old (ringI 2 n (s.old 0)) = x := by
    rw [h.top, ring_of n hn]
    have := h2.ent 0 (by simp)
    rw [Nat.add_zero] at this
    rw [this]
    rfl
  refine ⟨_, _, _, _, ((s.go 1 0 id).go 1 1 id).go 1 (ringI 2 n (s.old 0)) id, (s.go 1 0 id).old 1, e1, e2, ?_, h2.load 1 _⟩
  rw [← h.top, ← hw]
  exact e3
theorem steal4_no {s : St} {f : Fra} (h : f.ln = 4) (hh : s.hit f.qt f.fv = false) : ∃ s', stealS s f = (s', f, ⟨true, 4, 0⟩) := by
  have e := stealS_4 (s := s) h
  rw [hh] at e
  exact ⟨_, e⟩
theorem OB.beside {w w' : World} {x y m g : Nat} {ty : TypeId} {post : List Value} {f : Fra} {cd vl : Int} {p k cap : Nat} {s : St} {t d : Int} {hd : List Value} {rv ev : Value} (h : OB w x ty post f cd vl) (hp : PE w p m k g cap s t d hd rv ev) (hxy : x ≠ y) (hf : Fr [m, g, y] w w') : OB w' x ty post f cd vl := by
  obtain ⟨n1, n2, n3, n4⟩ := h.ne hp
  exact h.fr hf (by simp [n2, n4, hxy])

set_option maxRecDepth 100000 in
set_option maxHeartbeats 16000000 in
theorem awake10_any (w : World) :
    Calls Tryz.prog 19 #[] w fun e w' => e = .returned (.bool true) ∧ Below w.heap.size w w' := by
  go_enter Tryz.func19, Tryz.ntmps19
  go_wp2_with fail
  (with_reducible refine (queue_any 2 _).mono ?_)
  rintro e w2 ⟨rfl, hb2⟩
  have B2 := Lib.hid hb2
  clear hb2
  go_upto_region 2 with fail
  have Q3 := Lib.hid (Blk.made w2 27 (qcells 0 1 2 2))
  have B3 := Lib.hid (B2.out.alloc B2.out.size (.cells (qcells 0 1 2 2) 27))
  have HQB := Lib.hid B2.out.size
  generalize w2.alloc (.cells (qcells 0 1 2 2) 27) = V at *
  generalize w2.heap.size = qb at *
  clear B2
  have hin : InW (V.alloc (.cells #[.int .u64 0, .int .u64 2, .int .u64 5, .int .u64 6] 40)) (some ⟨V.heap.size, 0, none⟩) 4 [0, 2, 5, 6] := inW_new V 40 [0, 2, 5, 6] (by decide)
  have HM := Lib.hid (mbare_any hin 4 (by omega))
  have B4 := Lib.hid (B3.out.alloc B3.out.size (.cells #[.int .u64 0, .int .u64 2, .int .u64 5, .int .u64 6] 40))
  have Q4 := Lib.hid (Q3.out.alloc (.cells #[.int .u64 0, .int .u64 2, .int .u64 5, .int .u64 6] 40))
  clear hin Q3 B3
  go_wp2_with fail
  (with_reducible refine HM.out.mono ?_)
  rintro e w5 ⟨p, m, k, g, q, ag, acap, s, rfl, hd, hsX, hsc, hb5⟩
  have hs4 := B4.out.size
  have A5 := Lib.hid (show AW w p m k g 4 hd0 nilV nilV 0 0 qb 2 s w5 from ⟨hd.e, Q4.out.below hb5, awake_N hsX, B4.out.trans (hb5.mono hs4), Nat.le_trans hs4 hd.bp, Nat.le_trans hs4 hd.bm, Nat.le_trans hs4 hd.bk, Nat.le_trans hs4 hd.bg, HQB.out⟩)
  obtain ⟨s1, f1, s2, f2, s3, u, e1, e2, e3, d3⟩ := (dq_awake hsX).steal3 (by simp) 2
  obtain ⟨s4, r4, d4⟩ := DQ.steal d3 (by simp) 2
  have o1 := stealOk1 2 (by omega)
  have n0 := awake_N hsX
  have z1 := steal_keeps.n s _ n0 o1
  have o2 := steal_keeps.o s _ n0 o1 (by rw [show ((2 : Nat) : Int) = 2 from rfl] at e1; rw [e1])
  rw [show ((2 : Nat) : Int) = 2 from rfl] at e1 e3 r4
  rw [e1] at z1 o2
  have z2 := steal_keeps.n s1 f1 z1 o2
  have o3 := steal_keeps.o s1 f1 z1 o2 (by rw [e2])
  rw [e2] at z2 o3
  have z3 := steal_keeps.n s2 f2 z2 o3
  have o4 := steal_keeps.o s2 f2 z2 o3 (by rw [e3])
  rw [e3] at z3 o4
  have z4 := runS_N steal_keeps 20 z3 o1 r4
  obtain ⟨s5, e5⟩ := steal4_no (s := s4) (f := { fra1 2 0 1 2 2 0 with fv := 0, fu := u, fw := 5, ln := 4 }) rfl (by
    show s4.hit 0 0 = false
    unfold St.hit
    rw [d4.top]
    simp)
  have r5 := runS_last (n := 19) e5 rfl
  have HE := Lib.hid (And.intro e1 (And.intro e2 e3))
  have HR := Lib.hid (And.intro r4 r5)
  have HO := Lib.hid (And.intro o1 (And.intro o2 (And.intro o3 o4)))
  have HN := Lib.hid (And.intro z1 (And.intro z2 (And.intro z3 z4)))
  clear hd hsX hsc hb5 Q4 hs4 B4 HM HQB e1 e2 e3 r4 r5 o1 o2 o3 o4 z1 z2 z3 z4 n0 d3 d4 e5
  have q0 : w5.cell? ⟨qb, 0, none⟩ = some (.int .i64 0) := A5.out.q.at_ 0
  have q1 : w5.cell? ⟨qb, 1, none⟩ = some (.int .i64 1) := A5.out.q.at_ 1
  have q2 : w5.cell? ⟨qb, 2, none⟩ = some (.int .i64 2) := A5.out.q.at_ 2
  have q3 : w5.cell? ⟨qb, 3, none⟩ = some (.int .i64 2) := A5.out.q.at_ 3
  go_wp2_with fail
  (with_reducible refine (oSteal_any 0 1 2 2 _).mono ?_)
  rintro e w6 ⟨x, rfl, ho, hx, hb⟩
  have C0 := Lib.hid (A5.out.below hb)
  have O0 := Lib.hid ho
  have X0 := Lib.hid (show w.heap.size ≤ x by have := A5.out.b.size; omega)
  have km := meth_step_stealer x
  have ka := ahead_step_stealer x
  have HS := Lib.hid (stealer_any C0.out.e O0.out HO.out.1.1 HO.out.1.2.2.1 HO.out.1.2.2.2)
  clear ho hx hb q0 q1 q2 q3 A5
  go_wp2_with fail
  (with_reducible refine HS.out.mono ?_)
  rintro e v1 ⟨rfl, hp, hb, hf⟩
  have hE := HE.out.1
  rw [hE] at hp hb
  have C1 := Lib.hid (C0.out.done O0.out (by decide) X0.out hp hf HN.out.1)
  have O1 := Lib.hid (show OB v1 x 104 [.int .u64 f1.fw] f1 0 0 from hb)
  clear HS
  have HS := Lib.hid (stealer_any C1.out.e O1.out HO.out.2.1.1 HO.out.2.1.2.2.1 HO.out.2.1.2.2.2)
  rw [hE]
  clear hp hb hf hE C0 O0
  go_wp2_with fail
  (with_reducible refine HS.out.mono ?_)
  rintro e v2 ⟨rfl, hp, hb, hf⟩
  have hE := HE.out.2.1
  rw [hE] at hp hb
  have C2 := Lib.hid (C1.out.done O1.out (by decide) X0.out hp hf HN.out.2.1)
  have O2 := Lib.hid (show OB v2 x 104 [.int .u64 f2.fw] f2 0 0 from hb)
  clear HS
  have HS := Lib.hid (stealer_any C2.out.e O2.out HO.out.2.2.1.1 HO.out.2.2.1.2.2.1 HO.out.2.2.1.2.2.2)
  rw [hE]
  clear hp hb hf hE C1 O1
  go_wp2_with fail
  (with_reducible refine HS.out.mono ?_)
  rintro e v3 ⟨rfl, hp, hb, hf⟩
  have hE := HE.out.2.2
  rw [hE] at hp hb
  have C3 := Lib.hid (C2.out.done O2.out (by decide) X0.out hp hf HN.out.2.2.1)
  have O3 := Lib.hid (show OB v3 x 104 [.int .u64 5] ({ fra1 2 0 1 2 2 0 with fv := 0, fu := u, fw := 5, ln := 4 } : Fra) 0 0 from hb)
  rw [hE]
  clear hp hb hf hE C2 O2
  clear HS km ka
  have q0 : v3.cell? ⟨qb, 0, none⟩ = some (.int .i64 0) := C3.out.q.at_ 0
  have q1 : v3.cell? ⟨qb, 1, none⟩ = some (.int .i64 1) := C3.out.q.at_ 1
  have q2 : v3.cell? ⟨qb, 2, none⟩ = some (.int .i64 2) := C3.out.q.at_ 2
  have q3 : v3.cell? ⟨qb, 3, none⟩ = some (.int .i64 2) := C3.out.q.at_ 3
  go_wp2_with fail
  (with_reducible refine (oSteal_any 0 1 2 2 _).mono ?_)
  rintro e w7 ⟨y, rfl, ho, hy, hb⟩
  have hxy : x ≠ y := by have := O3.out.blk.lt; omega
  have C4 := Lib.hid (C3.out.below hb)
  have O4 := Lib.hid (O3.out.below hb)
  have Y4 := Lib.hid ho
  have HY := Lib.hid (And.intro hxy (show w.heap.size ≤ y by have := C3.out.b.size; omega))
  clear ho hy hb q0 q1 q2 q3 hxy C3 O3
  go_wp2_with fail
  (with_reducible refine (alone_stealer C4.out.e Y4.out C4.out.n (stealOk1 2 (by omega)) HR.out.1).mono ?_)
  rintro e v5 ⟨rfl, hp, hf⟩
  have C5 := Lib.hid (C4.out.done Y4.out (by decide) HY.out.2 hp hf HN.out.2.2.2)
  have O5 := Lib.hid (O4.out.beside C4.out.e HY.out.1 hf)
  clear hp hf C4 O4 Y4 HY
  go_wp2_with fail
  (with_reducible refine (alone_stealer C5.out.e O5.out C5.out.n HO.out.2.2.2 HR.out.2).mono ?_)
  rintro e v6 ⟨rfl, hp, hf⟩
  have C6 := Lib.hid (C5.out.done O5.out (by decide) X0.out hp hf (runS_N steal_keeps 20 C5.out.n HO.out.2.2.2 HR.out.2))
  clear hp hf C5 O5
  have e5 : wrap64 5 = 5 := by unfold wrap64; omega
  rw [e5]
  go_wp2
  go_ret
  exact ⟨rfl, C6.out.b⟩
end Go.Proofs.YtplifdmfoeejaaaGreat
