/-
  Plain mathematics of one deque: what a steal alone does; how a pop and a steal that meet at the last entry end. No function is named.
  Plain mathematics: an owner that pushes and then sets a bit, a thief that clears the bit, and one that steals, on one deque. No function is named.
-/
import Derived.Test.YtllllbepnnpeeaaMgAJ
import Derived.Test.YtllllbepnnpeeaaMgAH
import Derived.Test.YtllllbepnnpeeaaMgAF
namespace Go.Proofs.Ytllllbepnnpeeaa
open Go Go.RowKit
set_option linter.unusedSimpArgs false
set_option linter.unusedVariables false

section
variable {s : St} {f : Fra}
theorem stealS_1 (h : f.ln = 1) : stealS s f = (s.go 1 f.qt id, { f with fv := s.old f.qt, ln := 2 }, .none) := by
  unfold stealS
  rw [if_pos h]
theorem stealS_2e (h : f.ln = 2) (hc : sizeI (s.old f.qb) f.fv ≤ 0) : stealS s f = (s.go 1 f.qb id, { f with fu := s.old f.qb }, ⟨true, 2, 0⟩) := by
  unfold stealS
  rw [if_neg (by omega), if_pos h, if_pos hc]
theorem stealS_2 (h : f.ln = 2) (hc : ¬ sizeI (s.old f.qb) f.fv ≤ 0) : stealS s f = (s.go 1 f.qb id, { f with fu := s.old f.qb, ln := 3 }, .none) := by
  unfold stealS
  rw [if_neg (by omega), if_pos h, if_neg hc]
theorem stealS_3 (h : f.ln = 3) : stealS s f = (s.go 1 (ringI f.qr f.qc f.fv) id, { f with fw := s.old (ringI f.qr f.qc f.fv), ln := 4 }, .none) := by
  unfold stealS
  rw [if_neg (by omega), if_neg (by omega), if_pos h]
theorem stealS_4 (h : f.ln = 4) : stealS s f = (s.go 3 f.qt (fun x => if x = f.fv then add1 f.fv else x), f, if s.hit f.qt f.fv then ⟨true, 1, wrap64 f.fw⟩ else ⟨true, 4, 0⟩) := by
  unfold stealS
  rw [if_neg (by omega), if_neg (by omega), if_neg (by omega)]
end
section
variable {s : St} {n t : Nat} {l : List Int}
theorem DQ.has0 (h : DQ s n t l) : s.has 0 := h.hasN (j := 0) (by have := h.nn; omega)
theorem DQ.steal_none (h : DQ s n t []) (kd : Int) : ∃ s', runS stealS 20 s (fra1 kd 0 1 2 n 0) = some (s', ⟨true, 2, 0⟩, 2) ∧ DQ s' n t [] := by
  have e1 : stealS s (fra1 kd 0 1 2 n 0) = _ := stealS_1 rfl
  have h1 := h.load 1 0
  have hsz : sizeI ((s.go 1 0 id).old 1) (s.old 0) = 0 := by
    rw [h1.bot, h.top]
    simp [sizeI, IntKind.wrap_u64, wrap64]
  have e2 := stealS_2e (s := s.go 1 0 id) (f := { fra1 kd 0 1 2 n 0 with fv := s.old 0, ln := 2 }) rfl (by show sizeI ((s.go 1 0 id).old 1) (s.old 0) ≤ 0; omega)
  exact ⟨_, runS_cons e1 (runS_last e2 rfl), h1.load 1 1⟩
theorem DQ.steal {x : Int} (h : DQ s n t (x :: l)) (hb : t + l.length < 18446744073709551000) (kd : Int) : ∃ s', runS stealS 20 s (fra1 kd 0 1 2 n 0) = some (s', ⟨true, 1, wrap64 x⟩, 4) ∧ DQ s' n (t + 1) l := by
  have hn := h.nn
  have hcap := h.cap
  simp only [List.length_cons] at hcap
  have e1 : stealS s (fra1 kd 0 1 2 n 0) = _ := stealS_1 rfl
  have h1 := h.load 1 0
  have hsz : sizeI ((s.go 1 0 id).old 1) (s.old 0) = (l.length : Int) + 1 := by
    rw [h1.bot, h.top, size_of (by omega) (by simp; omega)]
    simp
  have h2 := h1.load 1 1
  obtain ⟨s2, hs2⟩ : ∃ s2, (s.go 1 0 id).go 1 1 id = s2 := ⟨_, rfl⟩
  have e2 : stealS (s.go 1 0 id) { fra1 kd 0 1 2 n 0 with fv := s.old 0, ln := 2 } = (s2, { fra1 kd 0 1 2 n 0 with fv := s.old 0, fu := (s.go 1 0 id).old 1, ln := 3 }, .none) := by
    rw [← hs2]
    exact stealS_2 rfl (by show ¬ sizeI ((s.go 1 0 id).old 1) (s.old 0) ≤ 0; omega)
  rw [hs2] at h2
  have h3 := h2.load 1 (ringI 2 n (s.old 0))
  have e3 := stealS_3 (s := s2) (f := { fra1 kd 0 1 2 n 0 with fv := s.old 0, fu := (s.go 1 0 id).old 1, ln := 3 }) rfl
  obtain ⟨s3, hs3⟩ : ∃ s3, s2.go 1 (ringI 2 n (s.old 0)) id = s3 := ⟨_, rfl⟩
  have hw : s2.old (ringI 2 n (s.old 0)) = x := by
    rw [h.top, ring_of n hn]
    have := h2.ent 0 (by simp)
    rw [Nat.add_zero] at this
    rw [this]
    rfl
  have e3' : stealS s2 { fra1 kd 0 1 2 n 0 with fv := s.old 0, fu := (s.go 1 0 id).old 1, ln := 3 } = (s3, { fra1 kd 0 1 2 n 0 with fv := s.old 0, fu := (s.go 1 0 id).old 1, fw := x, ln := 4 }, .none) := by
    rw [e3, ← hs3]
    show (_, _, _) = (_, _, _)
    rw [show ({ fra1 kd 0 1 2 n 0 with fv := s.old 0, fu := (s.go 1 0 id).old 1, ln := 3 } : Fra).qr = 2 from rfl]
    show (_, ({ fra1 kd 0 1 2 n 0 with fv := s.old 0, fu := (s.go 1 0 id).old 1, fw := s2.old (ringI 2 n (s.old 0)), ln := 4 } : Fra), _) = (_, _, _)
    rw [hw]
  rw [hs3] at h3
  have hhit : s3.hit 0 (s.old 0) = true := by
    unfold St.hit
    rw [decide_eq_true h3.has0, h3.top, h.top]
    simp
  have e4 : stealS s3 { fra1 kd 0 1 2 n 0 with fv := s.old 0, fu := (s.go 1 0 id).old 1, fw := x, ln := 4 } = (s3.go 3 0 (fun y => if y = s.old 0 then add1 (s.old 0) else y), { fra1 kd 0 1 2 n 0 with fv := s.old 0, fu := (s.go 1 0 id).old 1, fw := x, ln := 4 }, ⟨true, 1, wrap64 x⟩) := by
    rw [stealS_4 rfl]
    show (_, _, (if s3.hit 0 (s.old 0) then _ else _)) = _
    rw [hhit]
    rfl
  refine ⟨_, runS_cons e1 (runS_cons e2 (runS_cons e3' (runS_last e4 rfl))), ?_⟩
  rw [h.top]
  refine ⟨by rw [go_len]; exact h3.len, ?_, ?_, by omega, fun i hi => ?_, hn⟩
  · rw [go_old _ _ _ _ h3.has0, h3.top, if_pos rfl]
    show IntKind.u64.wrap _ = _
    rw [IntWalk.u64_in _ (by omega)]
    omega
  · rw [go_other _ _ _ _ _ (by omega), h3.bot]
    simp
    omega
  · rw [go_other _ _ _ _ _ (by omega)]
    have := h3.ent (i + 1) (by simp; omega)
    rw [show t + (i + 1) = t + 1 + i by omega] at this
    rw [this]
    simp
end

/-- A pop and a steal at one entry e, whatever the order of their steps: where both stand. -/
def Meet (s : St) (t0 : Nat) (e : Int) (x y : Mach) (a b : Option Res) : Prop :=
  ∃ T L cl, CL s 3 t0 T L ∧ OW s 3 T L cl x.own ∧ (y = .no ∨ ∃ f, y = .steal f ∧ TH 3 t0 T L f) ∧
    ((x = .no ∧ ∃ r, a = some r) ∨ ∃ f, x = .pop f ∧ a = none) ∧ (y = .no → ∃ r, b = some r) ∧ (y ≠ .no → b = none) ∧
    ((L = [e] ∧ cl = none ∧ (∀ r, a = some r → False) ∧ (∀ r, b = some r → r.cd ≠ 1)) ∨
     (L = [] ∧ cl = some e ∧ (∀ r, a = some r → False) ∧ (∀ r, b = some r → r.cd ≠ 1)) ∨
     (L = [] ∧ cl = none ∧ (∃ r, a = some r ∧ r.cd = 1 ∧ r.vl = IntKind.i64.wrap e) ∧ (∀ r, b = some r → r.cd ≠ 1)) ∨
     (L = [] ∧ cl = none ∧ (∀ r, a = some r → r.cd ≠ 1) ∧ (∃ r, b = some r ∧ r.cd = 1 ∧ r.vl = wrap64 e)))
theorem Meet.begin {s : St} {t0 : Nat} {e : Int} {f g : Fra} (hs : CL s 3 t0 t0 [e]) (hb : s.old 1 = ((t0 + 1 : Nat) : Int)) (hf : f.qt = 0 ∧ f.qb = 1 ∧ f.qr = 2 ∧ f.qc = (3 : Nat)) (hf1 : f.ln = 1) (hg : g.qt = 0 ∧ g.qb = 1 ∧ g.qr = 2 ∧ g.qc = (3 : Nat)) (hg1 : g.ln = 1) :
    Meet s t0 e (.pop f) (.steal g) none none :=
  ⟨t0, [e], none, hs, ⟨hf.1, hf.2.1, hf.2.2.1, hf.2.2.2, .inl ⟨hf1, hb, rfl⟩⟩, .inr ⟨g, rfl, hg.1, hg.2.1, hg.2.2.1, hg.2.2.2, .inl hg1⟩, .inr ⟨f, rfl, rfl⟩, fun h => (by cases h), fun _ => rfl, .inl ⟨rfl, rfl, fun r h => (by cases h), fun r h => (by cases h)⟩⟩
theorem Meet.pop {s : St} {t0 : Nat} {e : Int} {f : Fra} {y : Mach} {b : Option Res} (h : Meet s t0 e (.pop f) y none b) :
    ((popS s f).2.2.dn = false → Meet (popS s f).1 t0 e (.pop (popS s f).2.1) y none b) ∧
    ((popS s f).2.2.dn = true → Meet (popS s f).1 t0 e .no y (some (popS s f).2.2) b) := by
  obtain ⟨T, L, cl, hc, ho, hy, hx, hb1, hb2, hcase⟩ := h
  obtain ⟨T', L', cl', k0, k1, k2, k3, k4⟩ := Go.Proofs.Ytllllbepnnpeeaa.pop_step hc ho
  have hy' : y = .no ∨ ∃ g, y = .steal g ∧ TH 3 t0 T' L' g := by
    rcases hy with e | ⟨g, e, kg⟩
    · exact .inl e
    · exact .inr ⟨g, e, k2 g kg⟩
  refine ⟨fun hd => ?_, fun hd => ?_⟩
  · obtain ⟨e1, e2⟩ := k3 hd
    refine ⟨T', L', cl', k1, e1, hy', .inr ⟨_, rfl, rfl⟩, hb1, hb2, ?_⟩
    rcases e2 with ⟨rfl, rfl⟩ | ⟨rfl, x, rfl, e2⟩
    · exact hcase
    · rcases hcase with ⟨rfl, _, ha, hb⟩ | ⟨_, hh, _⟩ | ⟨_, _, ⟨r, hr, _⟩, _⟩ | ⟨rfl, _, _, _⟩
      · have hx : L' = [] ∧ x = e := by
          rcases e2 with e2 | e2
          · cases L' with
            | nil => simp at e2; exact ⟨rfl, e2.symm⟩
            | cons z zs => simp at e2
          · simp at e2
            exact ⟨e2.2, e2.1.symm⟩
        rw [hx.1, hx.2]
        exact .inr (.inl ⟨rfl, rfl, ha, hb⟩)
      · cases hh
      · cases hr
      · rcases e2 with e2 | e2 <;> simp at e2
  · obtain ⟨e1, rfl, e3⟩ := k4 hd
    refine ⟨T', L', none, k1, ⟨e1, rfl⟩, hy', .inl ⟨rfl, _, rfl⟩, hb1, hb2, ?_⟩
    rcases e3 with ⟨c1, x, rfl, ev⟩ | ⟨c0, c1, rfl, rfl⟩
    · rcases hcase with ⟨_, hh, _⟩ | ⟨rfl, hh, ha, hb⟩ | ⟨_, hh, _⟩ | ⟨_, hh, _⟩
      · cases hh
      · injection hh with hh
        subst hh
        exact .inr (.inr (.inl ⟨rfl, rfl, ⟨_, rfl, c1, ev⟩, hb⟩))
      · cases hh
      · cases hh
    · rcases hcase with ⟨hh, _⟩ | ⟨_, hh, _⟩ | ⟨_, _, ⟨r, hr, _⟩, _⟩ | ⟨_, _, _, hb⟩
      · cases hh
      · cases hh
      · cases hr
      · exact .inr (.inr (.inr ⟨rfl, rfl, fun r hr => by injection hr with hr; subst hr; exact c1, hb⟩))
theorem Meet.steal {s : St} {t0 : Nat} {e : Int} {f : Fra} {x : Mach} {a : Option Res} (h : Meet s t0 e x (.steal f) a none) :
    ((stealS s f).2.2.dn = false → Meet (stealS s f).1 t0 e x (.steal (stealS s f).2.1) a none) ∧
    ((stealS s f).2.2.dn = true → Meet (stealS s f).1 t0 e x .no a (some (stealS s f).2.2)) := by
  obtain ⟨T, L, cl, hc, ho, hy, hx, hb1, hb2, hcase⟩ := h
  have hf : TH 3 t0 T L f := by
    rcases hy with e | ⟨g, e, kg⟩
    · cases e
    · injection e with e
      rw [e]
      exact kg
  obtain ⟨T', L', k0, k1, k2, k3, k4, k5⟩ := thief_step hc ho hf
  refine ⟨fun hd => ?_, fun hd => ?_⟩
  · obtain ⟨e1, rfl⟩ := k4 hd
    exact ⟨T', L', cl, k1, k2, .inr ⟨_, rfl, e1⟩, hx, fun h => (by cases h), fun _ => rfl, hcase⟩
  · refine ⟨T', L', cl, k1, k2, .inl rfl, hx, fun _ => ⟨_, rfl⟩, fun h => absurd rfl h, ?_⟩
    rcases k5 hd with ⟨c1, z, e2, ev⟩ | ⟨c1, rfl⟩
    · rcases hcase with ⟨rfl, hcl, ha, hb⟩ | ⟨rfl, _⟩ | ⟨rfl, _⟩ | ⟨rfl, _⟩
      · injection e2 with e2 e3
        subst e2 e3
        exact .inr (.inr (.inr ⟨rfl, hcl, fun r hr => (ha r hr).elim, ⟨_, rfl, c1, ev⟩⟩))
      · cases e2
      · cases e2
      · cases e2
    · have hb' : ∀ r, some (stealS s f).2.2 = some r → r.cd ≠ 1 := fun r hr => by injection hr with hr; subst hr; exact c1
      rcases hcase with ⟨a1, a2, a3, a4⟩ | ⟨a1, a2, a3, a4⟩ | ⟨a1, a2, a3, a4⟩ | ⟨a1, a2, a3, ⟨r, hr, _⟩⟩
      · exact .inl ⟨a1, a2, a3, hb'⟩
      · exact .inr (.inl ⟨a1, a2, a3, hb'⟩)
      · exact .inr (.inr (.inl ⟨a1, a2, a3, hb'⟩))
      · cases hr
/-- When both are done, one of them alone has the entry. -/
theorem Meet.done {s : St} {t0 : Nat} {e : Int} {a b : Res} (h : Meet s t0 e .no .no (some a) (some b)) :
    (a.cd = 1 ∧ a.vl = IntKind.i64.wrap e ∧ b.cd ≠ 1) ∨ (a.cd ≠ 1 ∧ b.cd = 1 ∧ b.vl = wrap64 e) := by
  obtain ⟨T, L, cl, hc, ho, hy, hx, hb1, hb2, hcase⟩ := h
  rcases hcase with ⟨_, _, ha, _⟩ | ⟨_, _, ha, _⟩ | ⟨_, _, ⟨r, hr, c1, v1⟩, hb⟩ | ⟨_, _, ha, ⟨r, hr, c1, v1⟩⟩
  · exact (ha a rfl).elim
  · exact (ha a rfl).elim
  · injection hr with hr
    subst hr
    exact .inl ⟨c1, v1, hb b rfl⟩
  · injection hr with hr
    subst hr
    exact .inr ⟨ha a rfl, c1, v1⟩
end Go.Proofs.Ytllllbepnnpeeaa

namespace Go.Proofs.Ytllllbepnnpeeaa
open Go Go.RowKit
set_option linter.unusedSimpArgs false
set_option linter.unusedVariables false

theorem maskS_nat (b : Nat) (hb : b < 64) : maskS (b : Int) = ((2 ^ b : Nat) : Int) := by
  unfold maskS
  rw [if_neg (by omega), Int.toNat_natCast]
theorem pow_lt64 (b : Nat) (hb : b < 64) : 2 ^ b < 18446744073709551616 := by
  have : (2 : Nat) ^ b ≤ 2 ^ 63 := Nat.pow_le_pow_right (by decide) (by omega)
  omega
theorem or_zero_mask (b : Nat) (hb : b < 64) : bits .or .u64 0 (maskS b) = maskS b := by
  rw [maskS_nat b hb]
  have := u64_or_nat 0 (2 ^ b) (by decide) (pow_lt64 b hb)
  rw [Nat.zero_or] at this
  exact this
theorem or_mask_mask (b : Nat) (hb : b < 64) : bits .or .u64 (maskS b) (maskS b) = maskS b := by
  rw [maskS_nat b hb]
  have := u64_or_nat (2 ^ b) (2 ^ b) (pow_lt64 b hb) (pow_lt64 b hb)
  rw [Nat.or_self] at this
  exact this
theorem and_not_self (y : Nat) (hy : y < 18446744073709551616) : y &&& (18446744073709551615 ^^^ y) = 0 := by
  apply Nat.eq_of_testBit_eq
  intro i
  have e1 : (18446744073709551615 : Nat) = 2 ^ 64 - 1 := by decide
  rw [Nat.testBit_and, Nat.testBit_xor, e1, Nat.testBit_two_pow_sub_one, Nat.zero_testBit]
  by_cases hi : i < 64
  · cases y.testBit i <;> simp [hi]
  · have hp : 18446744073709551616 ≤ 2 ^ i := Nat.pow_le_pow_right (n := 2) (by decide) (show 64 ≤ i by omega)
    have a := Nat.testBit_lt_two_pow (Nat.lt_of_lt_of_le hy hp)
    simp [a]
theorem notU_nat (y : Nat) (hy : y < 18446744073709551616) : notU (y : Int) = ((18446744073709551615 ^^^ y : Nat) : Int) := u64_xor_nat 18446744073709551615 y (by decide) hy
theorem not_lt64 (y : Nat) (hy : y < 18446744073709551616) : 18446744073709551615 ^^^ y < 18446744073709551616 := Nat.xor_lt_two_pow (n := 64) (by decide) hy
theorem and_zero_mask (b : Nat) (hb : b < 64) : bits .and .u64 0 (notU (maskS b)) = 0 := by
  rw [maskS_nat b hb, notU_nat _ (pow_lt64 b hb)]
  have := u64_and_nat 0 (18446744073709551615 ^^^ 2 ^ b) (by decide) (not_lt64 _ (pow_lt64 b hb))
  rw [Nat.zero_and] at this
  exact this
theorem and_mask_mask (b : Nat) (hb : b < 64) : bits .and .u64 (maskS b) (notU (maskS b)) = 0 := by
  rw [maskS_nat b hb, notU_nat _ (pow_lt64 b hb)]
  have := u64_and_nat (2 ^ b) (18446744073709551615 ^^^ 2 ^ b) (pow_lt64 b hb) (not_lt64 _ (pow_lt64 b hb))
  rw [and_not_self _ (pow_lt64 b hb)] at this
  exact this
theorem old_load (s : St) (i j : Int) : (s.go 1 i id).old j = s.old j := by
  by_cases e : i = j
  · subst e
    by_cases hi : s.has i
    · rw [go_old s 1 i id hi]; rfl
    · unfold St.go
      rw [if_neg hi]
  · exact go_other s 1 i j id e

/-- The state of the four machines and of their memory: k entries, bit b. -/
structure BK (k b : Nat) (s : St) (fp : Fra) (dp ds : Bool) (fc : Fra) (dc : Bool) (fs : Fra) (dt : Bool) : Prop where
  len : s.X.length = 7
  nn : s.N
  top : s.old 0 = 0 ∨ s.old 0 = 1
  bot : s.old 1 = if dp then (k : Int) + 1 else k
  word : s.old 6 = 0 ∨ s.old 6 = maskS b
  pq : fp.qt = 0 ∧ fp.qb = 1 ∧ fp.qr = 2 ∧ fp.qc = 4
  pl : dp = false → PushOk fp ∧ (fp.ln ≠ 1 → fp.fu = k)
  sq : fs.qt = 0 ∧ fs.qb = 1 ∧ fs.qr = 2 ∧ fs.qc = 4
  sl : dt = false → StealOk fs ∧ s.old 0 = 0 ∧ (fs.ln ≠ 1 → fs.fv = 0)
  cq : fc.qt = 0 ∧ fc.qb = 1 ∧ fc.fa = 6 ∧ fc.fb = b
  cl : dc = false → StealOk fc
  dd : ds = true → dp = true
  j : ds = true → (dc = false ∧ fc.ln = 1) ∨ s.old 6 = maskS b ∨ (dc = false ∧ (fc.ln = 2 ∨ (fc.ln = 3 ∧ fc.fu = (k : Int) + 1) ∨ fc.ln = 4)) ∨ (dc = true ∧ (k : Int) + 1 ≤ s.old 0)
section
variable {k b : Nat} {s s' : St} {fp : Fra} {dp ds : Bool} {fc : Fra} {dc : Bool} {fs : Fra} {dt : Bool}
theorem BK.same (h : BK k b s fp dp ds fc dc fs dt) (hl : s'.X.length = s.X.length) (hn : s'.N) (h0 : s'.old 0 = s.old 0) (h1 : s'.old 1 = s.old 1) (h6 : s'.old 6 = s.old 6) : BK k b s' fp dp ds fc dc fs dt :=
  ⟨hl.trans h.len, hn, by rw [h0]; exact h.top, by rw [h1]; exact h.bot, by rw [h6]; exact h.word, h.pq, h.pl, h.sq, fun e => by rw [h0]; exact h.sl e, h.cq, h.cl, h.dd, fun e => by rw [h0, h6]; exact h.j e⟩
theorem BK.load (h : BK k b s fp dp ds fc dc fs dt) (i : Int) : BK k b (s.go 1 i id) fp dp ds fc dc fs dt :=
  h.same (go_len _ _ _ _) (go_N h.nn _ _ _ (fun x hx => hx)) (old_load ..) (old_load ..) (old_load ..)
theorem BK.has (h : BK k b s fp dp ds fc dc fs dt) {i : Int} (h0 : 0 ≤ i) (h1 : i < 7) : s.has i := ⟨h0, by have := h.len; omega⟩
theorem BK.push (h : BK k b s fp false ds fc dc fs dt) (hk : k ≤ 2) : BK k b (pushS s fp).1 (pushS s fp).2.1 (pushS s fp).2.2.dn ds fc dc fs dt ∧ ((pushS s fp).2.2.dn = false → (pushS s fp).2.1.ln = fp.ln + 1) ∧ ((pushS s fp).2.2.dn = true → fp.ln = 4) := by
  have hds : ds = false := by
    cases ds with
    | false => rfl
    | true => exact absurd (h.dd rfl) (by decide)
  subst hds
  obtain ⟨⟨hl, hu, hv, hq⟩, hf⟩ := h.pl rfl
  obtain ⟨q1, q2, q3, q4⟩ := h.pq
  have hb : s.old 1 = k := h.bot
  rcases hl with e | e | e | e
  · rw [pushS_1 e]
    have h1 := h.load fp.qb
    refine ⟨⟨h1.len, h1.nn, h1.top, h1.bot, h1.word, h1.pq, fun _ => ⟨⟨.inr (.inl rfl), h.nn _, hv, hq⟩, fun _ => ?_⟩, h1.sq, h1.sl, h1.cq, h1.cl, h1.dd, h1.j⟩, fun _ => ?_, fun e => absurd e (by simp)⟩
    · show s.old fp.qb = k
      rw [q2]; exact hb
    · show (2 : Int) = fp.ln + 1
      omega
  · have hfu := hf (by omega)
    have hsz : ¬ fp.qc ≤ sizeI fp.fu (s.old fp.qt) := by
      rw [q4, q1, hfu]
      have ht := h.top
      have : sizeI (k : Int) (s.old 0) = (k : Int) - s.old 0 := by
        unfold sizeI
        rw [IntKind.wrap_u64]
        unfold wrap64
        omega
      omega
    rw [pushS_2 e hsz]
    have h1 := h.load fp.qt
    refine ⟨⟨h1.len, h1.nn, h1.top, h1.bot, h1.word, h1.pq, fun _ => ⟨⟨.inr (.inr (.inl rfl)), hu, h.nn _, hq⟩, fun _ => hfu⟩, h1.sq, h1.sl, h1.cq, h1.cl, h1.dd, h1.j⟩, fun _ => ?_, fun e => absurd e (by simp)⟩
    show (3 : Int) = fp.ln + 1
    omega
  · have hfu := hf (by omega)
    rw [pushS_3 e]
    have hr : ringI fp.qr fp.qc fp.fu = 2 + (k : Int) := by
      rw [q3, q4, hfu]
      have := ring_of 4 (by omega) k
      rw [show ((4 : Nat) : Int) = 4 from rfl] at this
      rw [this]
      omega
    rw [hr]
    have h1 := h.same (s' := s.go 2 (2 + (k : Int)) (fun _ => IntKind.u64.wrap fp.fa)) (go_len _ _ _ _) (go_N h.nn _ _ _ (fun x hx => u64_nn _)) (go_other _ _ _ _ _ (by omega)) (go_other _ _ _ _ _ (by omega)) (go_other _ _ _ _ _ (by omega))
    refine ⟨⟨h1.len, h1.nn, h1.top, h1.bot, h1.word, h1.pq, fun _ => ⟨⟨.inr (.inr (.inr rfl)), hu, hv, hq⟩, fun _ => hfu⟩, h1.sq, h1.sl, h1.cq, h1.cl, h1.dd, h1.j⟩, fun _ => ?_, fun e => absurd e (by simp)⟩
    show (4 : Int) = fp.ln + 1
    omega
  · have hfu := hf (by omega)
    rw [pushS_4 e, q2]
    have o0 : (s.go 2 1 (fun _ => IntKind.u64.wrap (fp.fu + 1))).old 0 = s.old 0 := go_other _ _ _ _ _ (by omega)
    have o6 : (s.go 2 1 (fun _ => IntKind.u64.wrap (fp.fu + 1))).old 6 = s.old 6 := go_other _ _ _ _ _ (by omega)
    refine ⟨⟨(go_len _ _ _ _).trans h.len, go_N h.nn _ _ _ (fun x hx => u64_nn _), by rw [o0]; exact h.top, ?_, by rw [o6]; exact h.word, h.pq, fun e => absurd e (by simp), h.sq, fun e => by rw [o0]; exact h.sl e, h.cq, h.cl, fun _ => rfl, fun e => absurd e (by decide)⟩, fun e => absurd e (by simp), fun _ => e⟩
    rw [go_old _ _ _ _ (h.has (by omega) (by omega)), hfu]
    show IntKind.u64.wrap ((k : Int) + 1) = (k : Int) + 1
    rw [IntKind.wrap_u64]
    omega
theorem BK.set (h : BK k b s fp true false fc dc fs dt) (hb : b < 64) {f : Fra} (ha : f.fa = 6) (hf : f.fb = b) : BK k b (setS s f).1 fp true true fc dc fs dt := by
  unfold setS
  rw [ha, hf]
  have h6 : (s.go 4 6 (fun x => bits .or .u64 x (maskS b))).old 6 = maskS b := by
    rw [go_old _ _ _ _ (h.has (by omega) (by omega))]
    rcases h.word with e | e
    · rw [e]; exact or_zero_mask b hb
    · rw [e]; exact or_mask_mask b hb
  have o0 : (s.go 4 6 (fun x => bits .or .u64 x (maskS b))).old 0 = s.old 0 := go_other _ _ _ _ _ (by omega)
  have o1 : (s.go 4 6 (fun x => bits .or .u64 x (maskS b))).old 1 = s.old 1 := go_other _ _ _ _ _ (by omega)
  exact ⟨(go_len _ _ _ _).trans h.len, go_N h.nn _ _ _ (fun x hx => u64_nn _), by rw [o0]; exact h.top, by rw [o1]; exact h.bot, .inr h6, h.pq, h.pl, h.sq, fun e => by rw [o0]; exact h.sl e, h.cq, h.cl, fun _ => rfl, fun _ => .inr (.inl h6)⟩
theorem BK.steal (h : BK k b s fp dp ds fc dc fs false) (hk : k ≤ 2) : BK k b (stealS s fs).1 fp dp ds fc dc (stealS s fs).2.1 (stealS s fs).2.2.dn ∧ ((stealS s fs).2.2.dn = false → (stealS s fs).2.1.ln = fs.ln + 1) := by
  obtain ⟨⟨hl, hu, hv, hq⟩, h0, hf⟩ := h.sl rfl
  obtain ⟨q1, q2, q3, q4⟩ := h.sq
  rcases hl with e | e | e | e
  · rw [stealS_1 e]
    have h1 := h.load fs.qt
    refine ⟨⟨h1.len, h1.nn, h1.top, h1.bot, h1.word, h1.pq, h1.pl, h1.sq, fun _ => ⟨⟨.inr (.inl rfl), hu, h.nn _, hq⟩, (h1.sl rfl).2.1, fun _ => ?_⟩, h1.cq, h1.cl, h1.dd, h1.j⟩, fun _ => ?_⟩
    · show s.old fs.qt = 0
      rw [q1]; exact h0
    · show (2 : Int) = fs.ln + 1
      omega
  · have h1 := h.load fs.qb
    by_cases hc : sizeI (s.old fs.qb) fs.fv ≤ 0
    · rw [stealS_2e e hc]
      exact ⟨⟨h1.len, h1.nn, h1.top, h1.bot, h1.word, h1.pq, h1.pl, h1.sq, fun e => absurd e (by simp), h1.cq, h1.cl, h1.dd, h1.j⟩, fun e => absurd e (by simp)⟩
    · rw [stealS_2 e hc]
      refine ⟨⟨h1.len, h1.nn, h1.top, h1.bot, h1.word, h1.pq, h1.pl, h1.sq, fun _ => ⟨⟨.inr (.inr (.inl rfl)), h.nn _, hv, hq⟩, (h1.sl rfl).2.1, fun _ => hf (by omega)⟩, h1.cq, h1.cl, h1.dd, h1.j⟩, fun _ => ?_⟩
      show (3 : Int) = fs.ln + 1
      omega
  · rw [stealS_3 e]
    have h1 := h.load (ringI fs.qr fs.qc fs.fv)
    refine ⟨⟨h1.len, h1.nn, h1.top, h1.bot, h1.word, h1.pq, h1.pl, h1.sq, fun _ => ⟨⟨.inr (.inr (.inr rfl)), hu, hv, hq⟩, (h1.sl rfl).2.1, fun _ => hf (by omega)⟩, h1.cq, h1.cl, h1.dd, h1.j⟩, fun _ => ?_⟩
    show (4 : Int) = fs.ln + 1
    omega
  · have hfv := hf (by omega)
    rw [stealS_4 e]
    have hd : (if s.hit fs.qt fs.fv then (⟨true, 1, wrap64 fs.fw⟩ : Res) else ⟨true, 4, 0⟩).dn = true := by split <;> rfl
    rw [q1, hfv] at *
    have ht : (s.go 3 0 (fun x => if x = 0 then add1 0 else x)).old 0 = 1 := by
      rw [go_old _ _ _ _ (h.has (by omega) (by omega)), if_pos h0]
      show IntKind.u64.wrap (0 + 1) = 1
      rw [IntKind.wrap_u64]
      omega
    have o1 : (s.go 3 0 (fun x => if x = 0 then add1 0 else x)).old 1 = s.old 1 := go_other _ _ _ _ _ (by omega)
    have o6 : (s.go 3 0 (fun x => if x = 0 then add1 0 else x)).old 6 = s.old 6 := go_other _ _ _ _ _ (by omega)
    have hnn : (s.go 3 0 (fun x => if x = 0 then add1 0 else x)).N := go_N h.nn _ _ _ (fun x hx => by
      show 0 ≤ if x = 0 then add1 0 else x
      split
      · exact u64_nn _
      · exact hx)
    refine ⟨⟨(go_len _ _ _ _).trans h.len, hnn, .inr ht, by rw [o1]; exact h.bot, by rw [o6]; exact h.word, h.pq, h.pl, h.sq, fun e => absurd (hd.symm.trans e) (by simp), h.cq, h.cl, h.dd, fun e => ?_⟩, fun e => absurd (hd.symm.trans e) (by simp)⟩
    · rw [o6, ht]
      rcases h.j e with a | a | a | ⟨a1, a2⟩
      · exact .inl a
      · exact .inr (.inl a)
      · exact .inr (.inr (.inl a))
      · exact .inr (.inr (.inr ⟨a1, by omega⟩))
theorem clearS_1 {f : Fra} (h : f.ln = 1) : clearS s f = (s.go 5 f.fa (fun x => bits .and .u64 x (notU (maskS f.fb))), { f with ln := 2 }, .none) := by
  rw [clearS, if_pos h]
theorem clearS_2 {f : Fra} (h : f.ln = 2) : clearS s f = (s.go 1 f.qb id, { f with fu := s.old f.qb, ln := 3 }, .none) := by
  rw [clearS, if_neg (by omega), if_pos h]
theorem clearS_3e {f : Fra} (h : f.ln = 3) (hc : sizeI f.fu (s.old f.qt) ≤ 0) : clearS s f = (s.go 1 f.qt id, { f with fv := s.old f.qt }, ⟨true, 2, 0⟩) := by
  rw [clearS, if_neg (by omega), if_neg (by omega), if_pos h, if_pos hc]
theorem clearS_3 {f : Fra} (h : f.ln = 3) (hc : ¬ sizeI f.fu (s.old f.qt) ≤ 0) : clearS s f = (s.go 1 f.qt id, { f with fv := s.old f.qt, ln := 4 }, .none) := by
  rw [clearS, if_neg (by omega), if_neg (by omega), if_pos h, if_neg hc]
theorem clearS_4 {f : Fra} (h : f.ln = 4) : clearS s f = (s.go 4 f.fa (fun x => bits .or .u64 x (maskS f.fb)), f, ⟨true, 1, 0⟩) := by
  rw [clearS, if_neg (by omega), if_neg (by omega), if_neg (by omega)]
theorem BK.clear (h : BK k b s fp dp ds fc false fs dt) (hk : k ≤ 2) (hb : b < 64) : BK k b (clearS s fc).1 fp dp ds (clearS s fc).2.1 (clearS s fc).2.2.dn fs dt ∧ ((clearS s fc).2.2.dn = false → (clearS s fc).2.1.ln = fc.ln + 1) := by
  obtain ⟨hl, hu, hv, hq⟩ := h.cl rfl
  obtain ⟨q1, q2, q3, q4⟩ := h.cq
  rcases hl with e | e | e | e
  · have ec : clearS s fc = (s.go 5 6 (fun x => bits .and .u64 x (notU (maskS b))), { fc with ln := 2 }, .none) := by rw [clearS_1 e, q3, q4]
    rw [ec]
    have o0 : (s.go 5 6 (fun x => bits .and .u64 x (notU (maskS b)))).old 0 = s.old 0 := go_other _ _ _ _ _ (by omega)
    have o1 : (s.go 5 6 (fun x => bits .and .u64 x (notU (maskS b)))).old 1 = s.old 1 := go_other _ _ _ _ _ (by omega)
    have o6 : (s.go 5 6 (fun x => bits .and .u64 x (notU (maskS b)))).old 6 = 0 := by
      rw [go_old _ _ _ _ (h.has (by omega) (by omega))]
      rcases h.word with e | e
      · rw [e]; exact and_zero_mask b hb
      · rw [e]; exact and_mask_mask b hb
    refine ⟨⟨(go_len _ _ _ _).trans h.len, go_N h.nn _ _ _ (fun x hx => u64_nn _), by rw [o0]; exact h.top, by rw [o1]; exact h.bot, .inl o6, h.pq, h.pl, h.sq, fun e => by rw [o0]; exact h.sl e, h.cq, fun _ => ⟨.inr (.inl rfl), hu, hv, hq⟩, h.dd, fun _ => .inr (.inr (.inl ⟨rfl, .inl rfl⟩))⟩, fun _ => ?_⟩
    show (2 : Int) = fc.ln + 1
    omega
  · rw [clearS_2 e]
    have h1 := h.load fc.qb
    refine ⟨⟨h1.len, h1.nn, h1.top, h1.bot, h1.word, h1.pq, h1.pl, h1.sq, h1.sl, h1.cq, fun _ => ⟨.inr (.inr (.inl rfl)), h.nn _, hv, hq⟩, h1.dd, fun ed => ?_⟩, fun _ => ?_⟩
    · refine .inr (.inr (.inl ⟨rfl, .inr (.inl ⟨rfl, ?_⟩)⟩))
      show s.old fc.qb = (k : Int) + 1
      rw [q2, h.bot, if_pos (h.dd ed)]
    · show (3 : Int) = fc.ln + 1
      omega
  · have h1 := h.load fc.qt
    by_cases hc : sizeI fc.fu (s.old fc.qt) ≤ 0
    · rw [clearS_3e e hc]
      refine ⟨⟨h1.len, h1.nn, h1.top, h1.bot, h1.word, h1.pq, h1.pl, h1.sq, h1.sl, h1.cq, fun e => absurd e (by simp), h1.dd, fun ed => ?_⟩, fun e => absurd e (by simp)⟩
      rcases h1.j ed with ⟨_, a⟩ | a | ⟨_, a | ⟨_, a⟩ | a⟩ | ⟨a, _⟩
      · omega
      · exact .inr (.inl a)
      · omega
      · refine .inr (.inr (.inr ⟨rfl, ?_⟩))
        rw [old_load]
        rw [a, q1] at hc
        have ht := h.top
        have : sizeI ((k : Int) + 1) (s.old 0) = (k : Int) + 1 - s.old 0 := by
          unfold sizeI
          rw [IntKind.wrap_u64]
          unfold wrap64
          omega
        omega
      · omega
      · cases a
    · rw [clearS_3 e hc]
      refine ⟨⟨h1.len, h1.nn, h1.top, h1.bot, h1.word, h1.pq, h1.pl, h1.sq, h1.sl, h1.cq, fun _ => ⟨.inr (.inr (.inr rfl)), hu, h.nn _, hq⟩, h1.dd, fun ed => .inr (.inr (.inl ⟨rfl, .inr (.inr rfl)⟩))⟩, fun _ => ?_⟩
      show (4 : Int) = fc.ln + 1
      omega
  · have ec : clearS s fc = (s.go 4 6 (fun x => bits .or .u64 x (maskS b)), fc, ⟨true, 1, 0⟩) := by rw [clearS_4 e, q3, q4]
    rw [ec]
    have o0 : (s.go 4 6 (fun x => bits .or .u64 x (maskS b))).old 0 = s.old 0 := go_other _ _ _ _ _ (by omega)
    have o1 : (s.go 4 6 (fun x => bits .or .u64 x (maskS b))).old 1 = s.old 1 := go_other _ _ _ _ _ (by omega)
    have h6 : (s.go 4 6 (fun x => bits .or .u64 x (maskS b))).old 6 = maskS b := by
      rw [go_old _ _ _ _ (h.has (by omega) (by omega))]
      rcases h.word with e | e
      · rw [e]; exact or_zero_mask b hb
      · rw [e]; exact or_mask_mask b hb
    exact ⟨⟨(go_len _ _ _ _).trans h.len, go_N h.nn _ _ _ (fun x hx => u64_nn _), by rw [o0]; exact h.top, by rw [o1]; exact h.bot, .inr h6, h.pq, h.pl, h.sq, fun e => by rw [o0]; exact h.sl e, h.cq, fun e => absurd e (by simp), h.dd, fun _ => .inr (.inl h6)⟩, fun e => absurd e (by simp)⟩
/-- All of them are done. -/
theorem BK.last (h : BK k b s fp true true fc true fs true) (hk : k ≤ 2) : ∃ n : Nat, sizeI (s.old 1) (s.old 0) = n ∧ k ≤ n ∧ n ≤ k + 1 ∧ (n = 0 ∨ s.old 6 = maskS b) := by
  have ht := h.top
  have hb : s.old 1 = (k : Int) + 1 := h.bot
  have e : sizeI (s.old 1) (s.old 0) = (k : Int) + 1 - s.old 0 := by
    rw [hb]
    unfold sizeI
    rw [IntKind.wrap_u64]
    unfold wrap64
    omega
  refine ⟨((k : Int) + 1 - s.old 0).toNat, by rw [e]; omega, by omega, by omega, ?_⟩
  rcases h.j rfl with ⟨a, _⟩ | a | ⟨a, _⟩ | ⟨_, a⟩
  · cases a
  · exact .inr a
  · cases a
  · exact .inl (by omega)
end
/-- What is left to do. -/
def wkP (fp : Fra) (dp ds : Bool) : Nat := (if dp then 0 else (5 - fp.ln).toNat) + (if ds then 0 else 1)
def wkO (f : Fra) (d : Bool) : Nat := if d then 0 else (5 - f.ln).toNat
/-- At pick i, L picks being chosen, class c has W steps to do. -/
def Due (i L c W : Nat) : Prop := W ≤ 5 ∧ (L ≤ i → W = 0 ∨ 3 * W + (c + 3 - i % 3) % 3 + (i - L) ≤ 17)
theorem Due.other {i L c W : Nat} (h : Due i L c W) (hc : c < 3) (hn : L ≤ i → i % 3 ≠ c) : Due (i + 1) L c W := by
  refine ⟨h.1, fun hl => ?_⟩
  have h1 := h.1
  have h2 := h.2
  by_cases hi : L ≤ i
  · have := hn hi
    rcases h2 hi with e | e
    · exact .inl e
    · right; omega
  · obtain rfl : L = i + 1 := by omega
    right; omega
theorem Due.own {i L c W W' : Nat} (h : Due i L c W) (hc : c < 3) (hn : L ≤ i → i % 3 = c) (hw : W' + 1 ≤ W ∨ W' = 0) : Due (i + 1) L c W' := by
  have h1 := h.1
  have h2 := h.2
  refine ⟨by omega, fun hl => ?_⟩
  by_cases hi : L ≤ i
  · have := hn hi
    rcases h2 hi with e | e
    · left; omega
    · rcases hw with hw | hw
      · right; omega
      · exact .inl hw
  · obtain rfl : L = i + 1 := by omega
    rcases hw with hw | hw
    · right; omega
    · exact .inl hw
theorem Due.last {L c W : Nat} (h : Due (L + 40) L c W) : W = 0 := by
  rcases h.2 (by omega) with e | e
  · exact e
  · omega
end Go.Proofs.Ytllllbepnnpeeaa
