/-
  Plain mathematics of one deque, one owner and several thieves, whose steps are interleaved: what each step does to the list of entries. No function is named but those of OwM.
  Plain mathematics of one deque, one owner and several thieves: what the owner's steps do to the list of entries. No function is named but those of OwM.
-/
import Derived.Test.YtllllbepnnpeeaaMgAH
namespace Go.Proofs.Ytllllbepnnpeeaa
open Go Go.RowKit
set_option linter.unusedSimpArgs false
set_option linter.unusedVariables false

/-- The entries are L; the first one has the index T. -/
structure CL (s : St) (n t0 T : Nat) (L : List Int) : Prop where
  nn : 1 ≤ n ∧ n ≤ 100
  len : n + 2 ≤ s.X.length
  top : s.old 0 = T
  cap : L.length ≤ n
  lim : t0 ≤ T ∧ T + L.length < t0 + 1000000 ∧ t0 < 9223372036854775808
  ent : ∀ i, i < L.length → s.old ((2 + (T + i) % n : Nat) : Int) = L.getD i 0
/-- Where a push stands. -/
def PuW (s : St) (n T : Nat) (L : List Int) (f : Fra) : Prop :=
  f.qt = 0 ∧ f.qb = 1 ∧ f.qr = 2 ∧ f.qc = n ∧ s.old 1 = ((T + L.length : Nat) : Int) ∧
    (f.ln = 1 ∨ (f.ln = 2 ∧ f.fu = ((T + L.length : Nat) : Int)) ∨ (f.ln = 3 ∧ f.fu = ((T + L.length : Nat) : Int) ∧ L.length < n) ∨
      (f.ln = 4 ∧ f.fu = ((T + L.length : Nat) : Int) ∧ L.length < n ∧ s.old ((2 + (T + L.length) % n : Nat) : Int) = IntKind.u64.wrap f.fa))
/-- Where a pop stands; cl is the word that it has taken and not returned yet. -/
def PoW (s : St) (n T : Nat) (L : List Int) (f : Fra) (cl : Option Int) : Prop :=
  f.qt = 0 ∧ f.qb = 1 ∧ f.qr = 2 ∧ f.qc = n ∧
    ((f.ln = 1 ∧ s.old 1 = ((T + L.length : Nat) : Int) ∧ cl = none) ∨
     (f.ln = 2 ∧ f.fu = ((T + L.length : Nat) : Int) ∧ s.old 1 = ((T + L.length : Nat) : Int) ∧ cl = none) ∨
     (f.ln = 3 ∧ f.fu = ((T + L.length : Nat) : Int) ∧ s.old 1 = ((T + L.length : Nat) : Int) ∧ 1 ≤ T + L.length ∧ cl = none) ∨
     (f.ln = 4 ∧ f.fu = ((T + L.length : Nat) : Int) ∧ s.old 1 = ((T + L.length - 1 : Nat) : Int) ∧ 1 ≤ T + L.length ∧ cl = none) ∨
     (f.ln = 5 ∧ f.fu = ((T + L.length + 1 : Nat) : Int) ∧ s.old 1 = ((T + L.length : Nat) : Int) ∧ L.length < n ∧ cl = some (s.old ((2 + (T + L.length) % n : Nat) : Int))) ∨
     (f.ln = 6 ∧ f.fu = ((T + L.length : Nat) : Int) ∧ f.fv = ((T + L.length - 1 : Nat) : Int) ∧ s.old 1 = ((T + L.length - 1 : Nat) : Int) ∧ 1 ≤ T + L.length ∧ L.length ≤ 1 ∧ cl = none) ∨
     (f.ln = 7 ∧ f.fu = (T : Int) ∧ s.old 1 = ((T - 1 : Nat) : Int) ∧ 1 ≤ T ∧ L = [] ∧ cl = some (s.old ((2 + (T - 1) % n : Nat) : Int))) ∨
     (f.ln = 8 ∧ f.fu = (T : Int) ∧ s.old 1 = (T : Int) ∧ 1 ≤ T ∧ L = [] ∧ cl = some (s.old ((2 + (T - 1) % n : Nat) : Int))) ∨
     (f.ln = 9 ∧ f.fu = (T : Int) ∧ s.old 1 = ((T - 1 : Nat) : Int) ∧ 1 ≤ T ∧ L = [] ∧ cl = none))
/-- What the owner does: nothing, a push, a pop. -/
inductive Own where
  | rest
  | push (f : Fra)
  | pop (f : Fra)
def OW (s : St) (n T : Nat) (L : List Int) (cl : Option Int) : Own → Prop
  | .rest => s.old 1 = ((T + L.length : Nat) : Int) ∧ cl = none
  | .push f => PuW s n T L f ∧ cl = none
  | .pop f => PoW s n T L f cl
/-- Where a steal stands. -/
def TH (n t0 T : Nat) (L : List Int) (f : Fra) : Prop :=
  f.qt = 0 ∧ f.qb = 1 ∧ f.qr = 2 ∧ f.qc = n ∧
    (f.ln = 1 ∨ ∃ t : Nat, t0 ≤ t ∧ t ≤ T ∧ f.fv = (t : Int) ∧ (f.ln = 2 ∨ (f.ln = 3 ∧ (t = T → 0 < L.length)) ∨ (f.ln = 4 ∧ (t = T → 0 < L.length ∧ f.fw = L.getD 0 0))))

section
variable {s : St} {n t0 T : Nat} {L : List Int} {cl : Option Int}
theorem CL.load (h : CL s n t0 T L) (k i : Int) : CL (s.go k i id) n t0 T L :=
  ⟨h.nn, by rw [go_len]; exact h.len, by rw [go_id_old]; exact h.top, h.cap, h.lim, fun j hj => by rw [go_id_old]; exact h.ent j hj⟩
theorem OW.same {s' : St} {o : Own} (h : OW s n T L cl o) (e : ∀ j, s'.old j = s.old j) : OW s' n T L cl o := by
  cases o with
  | rest => exact ⟨by rw [e]; exact h.1, h.2⟩
  | push f =>
    obtain ⟨h1, h2⟩ := h
    unfold OW PuW at *
    simp only [e]
    exact ⟨h1, h2⟩
  | pop f =>
    unfold OW PoW at *
    simp only [e]
    exact h
/-- Bottom is at most one less than the end. -/
theorem OW.bot {o : Own} (h : OW s n T L cl o) : ∃ u : Nat, s.old 1 = (u : Int) ∧ u ≤ T + L.length ∧ T + L.length ≤ u + 1 := by
  cases o with
  | rest => exact ⟨_, h.1, by omega, by omega⟩
  | push f => exact ⟨_, h.1.2.2.2.2.1, by omega, by omega⟩
  | pop f =>
    obtain ⟨_, _, _, _, h⟩ := h
    rcases h with ⟨_, h, _⟩ | ⟨_, _, h, _⟩ | ⟨_, _, h, _⟩ | ⟨_, _, h, _⟩ | ⟨_, _, h, _⟩ | ⟨_, _, _, h, _⟩ | ⟨_, _, h, _, e, _⟩ | ⟨_, _, h, _, e, _⟩ | ⟨_, _, h, _, e, _⟩
    · exact ⟨_, h, by omega, by omega⟩
    · exact ⟨_, h, by omega, by omega⟩
    · exact ⟨_, h, by omega, by omega⟩
    · exact ⟨_, h, by omega, by omega⟩
    · exact ⟨_, h, by omega, by omega⟩
    · exact ⟨_, h, by omega, by omega⟩
    · subst e; exact ⟨_, h, by simp, by simp; omega⟩
    · subst e; exact ⟨_, h, by simp, by simp⟩
    · subst e; exact ⟨_, h, by simp, by simp; omega⟩
theorem TH.tail {x : Int} {f : Fra} (h : TH n t0 T (x :: L) f) : TH n t0 (T + 1) L f := by
  obtain ⟨h1, h2, h3, h4, h⟩ := h
  refine ⟨h1, h2, h3, h4, ?_⟩
  rcases h with h | ⟨t, a, b, c, h⟩
  · exact .inl h
  · refine .inr ⟨t, a, by omega, c, ?_⟩
    rcases h with h | ⟨h, _⟩ | ⟨h, _⟩
    · exact .inl h
    · exact .inr (.inl ⟨h, fun e => by omega⟩)
    · exact .inr (.inr ⟨h, fun e => by omega⟩)
theorem TH.keep {L' : List Int} {f : Fra} (h : TH n t0 T L f) (hl : 0 < L.length → 0 < L'.length ∧ L'.getD 0 0 = L.getD 0 0) : TH n t0 T L' f := by
  obtain ⟨h1, h2, h3, h4, h⟩ := h
  refine ⟨h1, h2, h3, h4, ?_⟩
  rcases h with h | ⟨t, a, b, c, h⟩
  · exact .inl h
  · refine .inr ⟨t, a, b, c, ?_⟩
    rcases h with h | ⟨h, k⟩ | ⟨h, k⟩
    · exact .inl h
    · exact .inr (.inl ⟨h, fun e => (hl (k e)).1⟩)
    · exact .inr (.inr ⟨h, fun e => ⟨(hl (k e).1).1, by rw [(hl (k e).1).2]; exact (k e).2⟩⟩)
theorem size_int {u t : Nat} (h : u < t + 1000000) (h' : t ≤ u + 1000000) (hb : u < 18446744073709551616 ∧ t < 18446744073709551616) : sizeI (u : Int) (t : Int) = (u : Int) - (t : Int) := by
  unfold sizeI
  rw [IntKind.wrap_u64]
  unfold wrap64
  omega
/-- The head goes: an entry is taken at Top. -/
theorem CL.head {x : Int} {k : Int} {F : Int → Int} (h : CL s n t0 T (x :: L)) (hF : F (T : Int) = ((T + 1 : Nat) : Int)) : CL (s.go k 0 F) n t0 (T + 1) L := by
  have hl := h.lim
  have hc := h.cap
  simp only [List.length_cons] at hl hc
  have hh : s.has 0 := ⟨by omega, by have := h.len; omega⟩
  refine ⟨h.nn, by rw [go_len]; exact h.len, ?_, by omega, ⟨by omega, by omega, hl.2.2⟩, fun i hi => ?_⟩
  · rw [go_old _ _ _ _ hh, h.top]
    exact hF
  · rw [go_other _ _ _ _ _ (by omega)]
    have := h.ent (i + 1) (by simp; omega)
    rw [show T + (i + 1) = T + 1 + i by omega] at this
    rw [this]
    simp
/-- .. and the owner does not mind. -/
theorem OW.head {x : Int} {k : Int} {F : Int → Int} {o : Own} (h : OW s n T (x :: L) cl o) : OW (s.go k 0 F) n (T + 1) L cl o := by
  have e : ∀ j, j ≠ 0 → (s.go k 0 F).old j = s.old j := fun j hj => go_other _ _ _ _ _ (fun e => hj e.symm)
  have e1 : (s.go k 0 F).old 1 = s.old 1 := e 1 (by omega)
  have e2 : ∀ j : Nat, (s.go k 0 F).old ((2 + j : Nat) : Int) = s.old ((2 + j : Nat) : Int) := fun j => e _ (by omega)
  have hT : T + (x :: L).length = T + 1 + L.length := by simp; omega
  cases o with
  | rest =>
    refine ⟨?_, h.2⟩
    rw [e1, ← hT]
    exact h.1
  | push f =>
    obtain ⟨⟨h1, h2, h3, h4, h5, h⟩, hc⟩ := h
    rw [hT] at h5 h
    refine ⟨⟨h1, h2, h3, h4, by rw [e1]; exact h5, ?_⟩, hc⟩
    rcases h with h | h | ⟨h, k1, k2⟩ | ⟨h, k1, k2, k3⟩
    · exact .inl h
    · exact .inr (.inl h)
    · exact .inr (.inr (.inl ⟨h, k1, by have := k2; simp only [List.length_cons] at this; omega⟩))
    · exact .inr (.inr (.inr ⟨h, k1, by have := k2; simp only [List.length_cons] at this; omega, by rw [e2]; exact k3⟩))
  | pop f =>
    obtain ⟨h1, h2, h3, h4, h⟩ := h
    rw [hT] at h
    refine ⟨h1, h2, h3, h4, ?_⟩
    rw [e1, e2, e2]
    rcases h with h | h | h | h | ⟨h, k1, k2, k3, k4⟩ | ⟨h, k1, k2, k3, k4, k5, k6⟩ | ⟨_, _, _, _, h, _⟩ | ⟨_, _, _, _, h, _⟩ | ⟨_, _, _, _, h, _⟩
    · exact .inl h
    · exact .inr (.inl h)
    · exact .inr (.inr (.inl h))
    · exact .inr (.inr (.inr (.inl h)))
    · exact .inr (.inr (.inr (.inr (.inl ⟨h, k1, k2, by have := k3; simp only [List.length_cons] at this; omega, k4⟩))))
    · exact .inr (.inr (.inr (.inr (.inr (.inl ⟨h, k1, k2, k3, k4, by have := k5; simp only [List.length_cons] at this; omega, k6⟩)))))
    · cases h
    · cases h
    · cases h

/-- A step of a steal. -/
theorem thief_step {f : Fra} {o : Own} (h : CL s n t0 T L) (ho : OW s n T L cl o) (hf : TH n t0 T L f) : ∃ T' L', T' + L'.length ≤ T + L.length ∧ CL (stealS s f).1 n t0 T' L' ∧ OW (stealS s f).1 n T' L' cl o ∧ (∀ g, TH n t0 T L g → TH n t0 T' L' g) ∧
    ((stealS s f).2.2.dn = false → TH n t0 T' L' (stealS s f).2.1 ∧ L' = L) ∧
    ((stealS s f).2.2.dn = true → ((stealS s f).2.2.cd = 1 ∧ ∃ x, L = x :: L' ∧ (stealS s f).2.2.vl = wrap64 x) ∨ ((stealS s f).2.2.cd ≠ 1 ∧ L' = L)) := by
  have hlim := h.lim
  have hnn := h.nn
  obtain ⟨h1, h2, h3, h4, hl⟩ := hf
  rcases hl with hl | ⟨t, ht0, htT, hv, hl | ⟨hl, hk⟩ | ⟨hl, hk⟩⟩
  · have e : stealS s f = (s.go 1 f.qt id, { f with fv := s.old f.qt, ln := 2 }, .none) := by unfold stealS; rw [if_pos hl]
    rw [e]
    refine ⟨T, L, Nat.le_refl _, h.load _ _, ho.same (fun j => go_id_old _ _ _ _), fun g hg => hg, fun _ => ⟨⟨h1, h2, h3, h4, .inr ⟨T, hlim.1, Nat.le_refl _, ?_, .inl rfl⟩⟩, rfl⟩, fun hd => by cases hd⟩
    show s.old f.qt = _
    rw [h1]
    exact h.top
  · obtain ⟨u, hu, hu1, hu2⟩ := ho.bot
    have hsz : sizeI (s.old f.qb) f.fv = (u : Int) - (t : Int) := by
      rw [h2, hv, hu]
      exact size_int (by omega) (by omega) (by omega)
    by_cases hc : sizeI (s.old f.qb) f.fv ≤ 0
    · have e : stealS s f = (s.go 1 f.qb id, { f with fu := s.old f.qb }, ⟨true, 2, 0⟩) := by unfold stealS; rw [if_neg (by omega), if_pos hl, if_pos hc]
      rw [e]
      exact ⟨T, L, Nat.le_refl _, h.load _ _, ho.same (fun j => go_id_old _ _ _ _), fun g hg => hg, fun hd => by simp at hd, fun _ => .inr ⟨by show (2 : Int) ≠ 1; decide, rfl⟩⟩
    · have e : stealS s f = (s.go 1 f.qb id, { f with fu := s.old f.qb, ln := 3 }, .none) := by unfold stealS; rw [if_neg (by omega), if_pos hl, if_neg hc]
      rw [e]
      exact ⟨T, L, Nat.le_refl _, h.load _ _, ho.same (fun j => go_id_old _ _ _ _), fun g hg => hg, fun _ => ⟨⟨h1, h2, h3, h4, .inr ⟨t, ht0, htT, hv, .inr (.inl ⟨rfl, fun e => by omega⟩)⟩⟩, rfl⟩, fun hd => by cases hd⟩
  · have e : stealS s f = (s.go 1 (ringI f.qr f.qc f.fv) id, { f with fw := s.old (ringI f.qr f.qc f.fv), ln := 4 }, .none) := by unfold stealS; rw [if_neg (by omega), if_neg (by omega), if_pos hl]
    rw [e]
    refine ⟨T, L, Nat.le_refl _, h.load _ _, ho.same (fun j => go_id_old _ _ _ _), fun g hg => hg, fun _ => ⟨⟨h1, h2, h3, h4, .inr ⟨t, ht0, htT, hv, .inr (.inr ⟨rfl, fun e => ⟨hk e, ?_⟩⟩)⟩⟩, rfl⟩, fun hd => by cases hd⟩
    show s.old (ringI f.qr f.qc f.fv) = _
    rw [h3, h4, hv, ring_of n hnn, e]
    have := h.ent 0 (hk e)
    rwa [Nat.add_zero] at this
  · have hh : s.has 0 := ⟨by omega, by have := h.len; omega⟩
    have e : stealS s f = (s.go 3 f.qt (fun x => if x = f.fv then add1 f.fv else x), f, if s.hit f.qt f.fv then ⟨true, 1, wrap64 f.fw⟩ else ⟨true, 4, 0⟩) := by unfold stealS; rw [if_neg (by omega), if_neg (by omega), if_neg (by omega)]
    rw [e, h1, hv]
    have hhit : s.hit 0 (t : Int) = decide (t = T) := by
      unfold St.hit
      rw [decide_eq_true hh, h.top, Bool.true_and, Bool.eq_iff_iff]
      simp
      omega
    by_cases htt : t = T
    · obtain ⟨k1, k2⟩ := hk htt
      obtain ⟨x, L', rfl⟩ : ∃ x L', L = x :: L' := by
        cases L with
        | nil => simp at k1
        | cons x L' => exact ⟨x, L', rfl⟩
      rw [hhit, decide_eq_true htt]
      refine ⟨T + 1, L', (by simp only [List.length_cons]; omega), CL.head (F := fun x => if x = (t : Int) then add1 (t : Int) else x) h ?_, OW.head (F := fun x => if x = (t : Int) then add1 (t : Int) else x) ho, fun g hg => hg.tail, fun hd => by simp at hd, fun _ => .inl ⟨rfl, x, rfl, ?_⟩⟩
      · show (if (T : Int) = (t : Int) then add1 (t : Int) else (T : Int)) = _
        rw [if_pos (by omega), htt]
        show IntKind.u64.wrap _ = _
        rw [IntWalk.u64_in _ (by omega)]
        omega
      · show wrap64 f.fw = wrap64 x
        rw [k2]
        rfl
    · rw [hhit, decide_eq_false htt]
      have hsame : ∀ j, (s.go 3 0 (fun x => if x = (t : Int) then add1 (t : Int) else x)).old j = s.old j := by
        intro j
        by_cases hj : (0 : Int) = j
        · subst hj
          rw [go_old _ _ _ _ hh, h.top, if_neg (by omega)]
        · exact go_other _ _ _ _ _ hj
      refine ⟨T, L, Nat.le_refl _, ⟨h.nn, by rw [go_len]; exact h.len, by rw [hsame]; exact h.top, h.cap, h.lim, fun i hi => by rw [hsame]; exact h.ent i hi⟩, ho.same hsame, fun g hg => hg, fun hd => by simp at hd, fun _ => .inr ⟨by simp, rfl⟩⟩
end
end Go.Proofs.Ytllllbepnnpeeaa

namespace Go.Proofs.Ytllllbepnnpeeaa
open Go Go.RowKit
set_option linter.unusedSimpArgs false
set_option linter.unusedVariables false

section
variable {s : St} {n t0 T : Nat} {L : List Int} {cl : Option Int}
theorem CL.same {s' : St} (h : CL s n t0 T L) (hl : s'.X.length = s.X.length) (e : ∀ j, s'.old j = s.old j) : CL s' n t0 T L :=
  ⟨h.nn, by rw [hl]; exact h.len, by rw [e]; exact h.top, h.cap, h.lim, fun i hi => by rw [e]; exact h.ent i hi⟩
/-- A store into Bottom. -/
theorem CL.bottom (h : CL s n t0 T L) (k : Int) (F : Int → Int) : CL (s.go k 1 F) n t0 T L :=
  ⟨h.nn, by rw [go_len]; exact h.len, by rw [go_other _ _ _ _ _ (by omega)]; exact h.top, h.cap, h.lim, fun i hi => by rw [go_other _ _ _ _ _ (by omega)]; exact h.ent i hi⟩
theorem CL.has1 (h : CL s n t0 T L) : s.has 1 := ⟨by omega, by have := h.len; have := h.nn; omega⟩
theorem CL.has0 (h : CL s n t0 T L) : s.has 0 := ⟨by omega, by have := h.len; have := h.nn; omega⟩
theorem CL.bot1 (h : CL s n t0 T L) (k v : Int) : (s.go k 1 (fun _ => v)).old 1 = v := go_old _ _ _ _ h.has1

/-- A step of a push. -/
theorem push_step {f : Fra} (h : CL s n t0 T L) (hw : PuW s n T L f) (hlim : T + L.length + 1 < t0 + 1000000) : ∃ L', CL (pushS s f).1 n t0 T L' ∧ (∀ g, TH n t0 T L g → TH n t0 T L' g) ∧
    ((pushS s f).2.2.dn = false → PuW (pushS s f).1 n T L' (pushS s f).2.1 ∧ L' = L) ∧
    ((pushS s f).2.2.dn = true → (pushS s f).1.old 1 = ((T + L'.length : Nat) : Int) ∧ (((pushS s f).2.2.cd = 0 ∧ L' = L ++ [IntKind.u64.wrap f.fa]) ∨ ((pushS s f).2.2.cd ≠ 0 ∧ (pushS s f).2.2.cd ≠ 1 ∧ L' = L))) := by
  have hl := h.lim
  have hnn := h.nn
  have hcap := h.cap
  obtain ⟨h1, h2, h3, h4, hb, hw⟩ := hw
  rcases hw with hl1 | ⟨hl2, hu⟩ | ⟨hl3, hu, hr⟩ | ⟨hl4, hu, hr, he⟩
  · rw [pushS_1 hl1]
    refine ⟨L, h.load _ _, fun g hg => hg, fun _ => ⟨⟨(by first | exact h1 | rfl), (by first | exact h2 | rfl), (by first | exact h3 | rfl), (by first | exact h4 | rfl), by rw [go_id_old]; exact hb, .inr (.inl ⟨rfl, ?_⟩)⟩, rfl⟩, fun hd => by cases hd⟩
    show s.old f.qb = _
    rw [h2]
    exact hb
  · have hsz : sizeI f.fu (s.old f.qt) = (L.length : Int) := by
      rw [hu, h1, h.top, size_of (by omega) (by omega)]
      omega
    by_cases hc : f.qc ≤ sizeI f.fu (s.old f.qt)
    · rw [pushS_2f hl2 hc]
      exact ⟨L, h.load _ _, fun g hg => hg, fun hd => by simp at hd, fun _ => ⟨by show (s.go _ _ _).old 1 = _; rw [go_id_old]; exact hb, .inr ⟨by show (3 : Int) ≠ 0; decide, by show (3 : Int) ≠ 1; decide, rfl⟩⟩⟩
    · rw [pushS_2 hl2 hc]
      exact ⟨L, h.load _ _, fun g hg => hg, fun _ => ⟨⟨(by first | exact h1 | rfl), (by first | exact h2 | rfl), (by first | exact h3 | rfl), (by first | exact h4 | rfl), by rw [go_id_old]; exact hb, .inr (.inr (.inl ⟨rfl, (by first | exact hu | rfl), by omega⟩))⟩, rfl⟩, fun hd => by cases hd⟩
  · rw [pushS_3 hl3, h3, h4, hu, ring_of n hnn]
    have hm := Nat.mod_lt (T + L.length) (show n > 0 by omega)
    have hh : s.has ((2 + (T + L.length) % n : Nat) : Int) := ⟨by omega, by have := h.len; omega⟩
    refine ⟨L, ⟨h.nn, by rw [go_len]; exact h.len, by rw [go_other _ _ _ _ _ (by omega)]; exact h.top, h.cap, h.lim, fun i hi => ?_⟩, fun g hg => hg, fun _ => ⟨⟨(by first | exact h1 | rfl), (by first | exact h2 | rfl), (by first | exact h3 | rfl), (by first | exact h4 | rfl), by rw [go_other _ _ _ _ _ (by omega)]; exact hb, .inr (.inr (.inr ⟨rfl, (by first | exact hu | rfl), hr, ?_⟩))⟩, rfl⟩, fun hd => by cases hd⟩
    · have hne := mod_ne (n := n) (a := T + i) (b := T + L.length) (by omega) (by omega)
      rw [go_other _ _ _ _ _ (by omega)]
      exact h.ent i hi
    · exact go_old _ _ _ _ hh
  · rw [pushS_4 hl4, h2, hu]
    have hB := h.bottom 2 (fun _ => IntKind.u64.wrap (((T + L.length : Nat) : Int) + 1))
    refine ⟨L ++ [IntKind.u64.wrap f.fa], ⟨hB.nn, hB.len, hB.top, by simp; omega, ⟨hl.1, by simp; omega, hl.2.2⟩, fun i hi => ?_⟩, fun g hg => hg.keep (fun hp => ⟨by simp, ?_⟩), fun hd => by simp at hd, fun _ => ⟨?_, .inl ⟨rfl, rfl⟩⟩⟩
    · rw [List.length_append] at hi
      simp only [List.length_cons, List.length_nil, Nat.zero_add] at hi
      by_cases hil : i < L.length
      · rw [hB.ent i hil, List.getD_eq_getElem?_getD, List.getD_eq_getElem?_getD, List.getElem?_append_left hil]
      · obtain rfl : i = L.length := by omega
        show (s.go _ _ _).old _ = _
        rw [go_other _ _ _ _ _ (by omega), he, List.getD_eq_getElem?_getD, List.getElem?_append_right (Nat.le_refl _), Nat.sub_self]
        rfl
    · rw [List.getD_eq_getElem?_getD, List.getD_eq_getElem?_getD, List.getElem?_append_left hp]
    · show (s.go _ _ _).old 1 = _
      rw [h.bot1, IntWalk.u64_in _ (by omega), List.length_append]
      simp
      omega

/-- A step of a pop. -/
theorem pop_step {f : Fra} (h : CL s n t0 T L) (hw : PoW s n T L f cl) : ∃ T' L' cl', T' + L'.length ≤ T + L.length ∧ CL (popS s f).1 n t0 T' L' ∧ (∀ g, TH n t0 T L g → TH n t0 T' L' g) ∧
    ((popS s f).2.2.dn = false → PoW (popS s f).1 n T' L' (popS s f).2.1 cl' ∧ ((cl' = cl ∧ L' = L) ∨ (cl = none ∧ ∃ x, cl' = some x ∧ (L = L' ++ [x] ∨ L = x :: L')))) ∧
    ((popS s f).2.2.dn = true → (popS s f).1.old 1 = ((T' + L'.length : Nat) : Int) ∧ L' = L ∧ (((popS s f).2.2.cd = 1 ∧ ∃ x, cl = some x ∧ (popS s f).2.2.vl = IntKind.i64.wrap x) ∨ ((popS s f).2.2.cd ≠ 0 ∧ (popS s f).2.2.cd ≠ 1 ∧ cl = none ∧ L = []))) := by
  have hl := h.lim
  have hnn := h.nn
  have hcap := h.cap
  obtain ⟨h1, h2, h3, h4, hw⟩ := hw
  rcases hw with ⟨hl1, hb, hcl⟩ | ⟨hl2, hu, hb, hcl⟩ | ⟨hl3, hu, hb, hp, hcl⟩ | ⟨hl4, hu, hb, hp, hcl⟩ | ⟨hl5, hu, hb, hr, hcl⟩ | ⟨hl6, hu, hv, hb, hp, hr, hcl⟩ | ⟨hl7, hu, hb, hp, hL, hcl⟩ | ⟨hl8, hu, hb, hp, hL, hcl⟩ | ⟨hl9, hu, hb, hp, hL, hcl⟩
  · rw [popS_1 hl1]
    refine ⟨T, L, cl, Nat.le_refl _, h.load _ _, fun g hg => hg, fun _ => ⟨⟨(by first | exact h1 | rfl), (by first | exact h2 | rfl), (by first | exact h3 | rfl), (by first | exact h4 | rfl), .inr (.inl ⟨rfl, ?_, by rw [go_id_old]; exact hb, hcl⟩)⟩, .inl ⟨rfl, rfl⟩⟩, fun hd => by cases hd⟩
    show s.old f.qb = _
    rw [h2]
    exact hb
  · have hsz : sizeI f.fu (s.old f.qt) = (L.length : Int) := by
      rw [hu, h1, h.top, size_of (by omega) (by omega)]
      omega
    by_cases hc : sizeI f.fu (s.old f.qt) ≤ 0
    · rw [popS_2e hl2 hc]
      exact ⟨T, L, cl, Nat.le_refl _, h.load _ _, fun g hg => hg, fun hd => by simp at hd, fun _ => ⟨by show (s.go _ _ _).old 1 = _; rw [go_id_old]; exact hb, rfl, .inr ⟨by show (2 : Int) ≠ 0; decide, by show (2 : Int) ≠ 1; decide, hcl, List.eq_nil_of_length_eq_zero (by omega)⟩⟩⟩
    · rw [popS_2 hl2 hc]
      exact ⟨T, L, cl, Nat.le_refl _, h.load _ _, fun g hg => hg, fun _ => ⟨⟨(by first | exact h1 | rfl), (by first | exact h2 | rfl), (by first | exact h3 | rfl), (by first | exact h4 | rfl), .inr (.inr (.inl ⟨rfl, (by first | exact hu | rfl), by rw [go_id_old]; exact hb, by omega, hcl⟩))⟩, .inl ⟨rfl, rfl⟩⟩, fun hd => by cases hd⟩
  · rw [popS_3 hl3, h2, hu]
    have hs : sub1 ((T + L.length : Nat) : Int) = ((T + L.length - 1 : Nat) : Int) := by
      show IntKind.u64.wrap _ = _
      rw [IntWalk.u64_in _ (by omega)]
      omega
    refine ⟨T, L, cl, Nat.le_refl _, CL.bottom h 2 (fun _ => sub1 ((T + L.length : Nat) : Int)), fun g hg => hg, fun _ => ⟨⟨(by first | exact h1 | rfl), (by first | exact h2 | rfl), (by first | exact h3 | rfl), (by first | exact h4 | rfl), .inr (.inr (.inr (.inl ⟨rfl, (by first | exact hu | rfl), ?_, hp, hcl⟩)))⟩, .inl ⟨rfl, rfl⟩⟩, fun hd => by cases hd⟩
    show (s.go 2 1 (fun _ => sub1 ((T + L.length : Nat) : Int))).old 1 = _
    rw [h.bot1, hs]
  · rw [popS_4 hl4]
    have hs : sub1 f.fu = ((T + L.length - 1 : Nat) : Int) := by
      rw [hu]
      show IntKind.u64.wrap _ = _
      rw [IntWalk.u64_in _ (by omega)]
      omega
    have hsz : sizeI (sub1 f.fu) (s.old f.qt) = (L.length : Int) - 1 := by
      rw [hs, h1, h.top, size_int (by omega) (by omega) (by omega)]
      omega
    rw [hsz]
    rcases Nat.lt_trichotomy L.length 1 with hz | hz | hz
    · have hL : L = [] := List.eq_nil_of_length_eq_zero (by omega)
      subst hL
      have hp4 : pop4 ((([] : List Int).length : Int) - 1) = 9 := by decide
      rw [hp4]
      refine ⟨T, [], cl, Nat.le_refl _, h.load _ _, fun g hg => hg, fun _ => ⟨⟨(by first | exact h1 | rfl), (by first | exact h2 | rfl), (by first | exact h3 | rfl), (by first | exact h4 | rfl), .inr (.inr (.inr (.inr (.inr (.inr (.inr (.inr ⟨rfl, by simpa using hu, ?_, by simpa using hp, rfl, hcl⟩)))))))⟩, .inl ⟨rfl, rfl⟩⟩, fun hd => by cases hd⟩
      show (s.go _ _ _).old 1 = _
      rw [go_id_old]
      simpa using hb
    · have hp4 : pop4 ((L.length : Int) - 1) = 6 := by rw [hz]; decide
      rw [hp4]
      refine ⟨T, L, cl, Nat.le_refl _, h.load _ _, fun g hg => hg, fun _ => ⟨⟨(by first | exact h1 | rfl), (by first | exact h2 | rfl), (by first | exact h3 | rfl), (by first | exact h4 | rfl), .inr (.inr (.inr (.inr (.inr (.inl ⟨rfl, (by first | exact hu | rfl), ?_, ?_, hp, by omega, hcl⟩)))))⟩, .inl ⟨rfl, rfl⟩⟩, fun hd => by cases hd⟩
      · show s.old f.qt = _
        rw [h1, h.top]
        omega
      · show (s.go _ _ _).old 1 = _
        rw [go_id_old]
        exact hb
    · have hp4 : pop4 ((L.length : Int) - 1) = 5 := by
        unfold pop4
        rw [if_neg (by omega), if_neg (by omega)]
      rw [hp4]
      obtain ⟨L0, x, rfl⟩ : ∃ l0 x, L = l0 ++ [x] := ⟨L.dropLast, L.getLast (by intro e; rw [e] at hz; simp at hz), (List.dropLast_concat_getLast (by intro e; rw [e] at hz; simp at hz)).symm⟩
      have hlen : (L0 ++ [x]).length = L0.length + 1 := by simp
      rw [hlen] at hz hu hb hl hcap
      have hx : s.old ((2 + (T + L0.length) % n : Nat) : Int) = x := by
        rw [h.ent L0.length (by omega)]
        simp
      have hcl0 : CL s n t0 T L0 := ⟨h.nn, h.len, h.top, by omega, ⟨hl.1, by omega, hl.2.2⟩, fun i hi => by rw [h.ent i (by omega), List.getD_eq_getElem?_getD, List.getD_eq_getElem?_getD, List.getElem?_append_left hi]⟩
      refine ⟨T, L0, some x, (by omega), hcl0.load _ _, fun g hg => hg.keep (fun _ => ⟨by omega, by rw [List.getD_eq_getElem?_getD, List.getD_eq_getElem?_getD, List.getElem?_append_left (by omega)]⟩), fun _ => ⟨⟨(by first | exact h1 | rfl), (by first | exact h2 | rfl), (by first | exact h3 | rfl), (by first | exact h4 | rfl), .inr (.inr (.inr (.inr (.inl ⟨rfl, (by first | exact hu | rfl), ?_, by omega, ?_⟩))))⟩, .inr ⟨hcl, x, rfl, .inl rfl⟩⟩, fun hd => by cases hd⟩
      · show (s.go _ _ _).old 1 = _
        rw [go_id_old, hb]
        omega
      · show some x = some ((s.go _ _ _).old _)
        rw [go_id_old, hx]
  · rw [popS_58 (.inl hl5)]
    have hs : sub1 f.fu = ((T + L.length : Nat) : Int) := by
      rw [hu]
      show IntKind.u64.wrap _ = _
      rw [IntWalk.u64_in _ (by omega)]
      omega
    rw [h3, h4, hs, ring_of n hnn]
    exact ⟨T, L, cl, Nat.le_refl _, h.load _ _, fun g hg => hg, fun hd => by simp at hd, fun _ => ⟨by show (s.go _ _ _).old 1 = _; rw [go_id_old]; exact hb, rfl, .inl ⟨rfl, _, hcl, rfl⟩⟩⟩
  · rw [popS_6 hl6, h1, hv]
    have hhit : s.hit 0 ((T + L.length - 1 : Nat) : Int) = decide (L.length = 1) := by
      unfold St.hit
      rw [decide_eq_true h.has0, h.top, Bool.true_and, Bool.eq_iff_iff]
      simp
      omega
    rw [hhit]
    by_cases hz : L.length = 1
    · obtain ⟨x, rfl⟩ : ∃ x, L = [x] := List.length_eq_one_iff.1 hz
      rw [decide_eq_true hz, if_pos rfl]
      have hF : (fun y => if y = ((T + [x].length - 1 : Nat) : Int) then add1 ((T + [x].length - 1 : Nat) : Int) else y) (T : Int) = ((T + 1 : Nat) : Int) := by
        show (if (T : Int) = ((T + 1 - 1 : Nat) : Int) then add1 ((T + 1 - 1 : Nat) : Int) else (T : Int)) = _
        rw [if_pos (by omega)]
        show IntKind.u64.wrap _ = _
        rw [IntWalk.u64_in _ (by omega)]
        omega
      have hH := CL.head (k := 3) (F := fun y => if y = ((T + [x].length - 1 : Nat) : Int) then add1 ((T + [x].length - 1 : Nat) : Int) else y) h hF
      have hx := h.ent 0 (by simp)
      rw [Nat.add_zero] at hx
      refine ⟨T + 1, [], some x, (by simp), hH, fun g hg => hg.tail, fun _ => ⟨⟨(by first | exact h1 | rfl), (by first | exact h2 | rfl), (by first | exact h3 | rfl), (by first | exact h4 | rfl), .inr (.inr (.inr (.inr (.inr (.inr (.inl ⟨rfl, (by first | exact hu | rfl), ?_, by omega, rfl, ?_⟩))))))⟩, .inr ⟨hcl, x, rfl, .inl rfl⟩⟩, fun hd => by cases hd⟩
      · show (s.go _ _ _).old 1 = _
        rw [go_other _ _ _ _ _ (by omega)]
        exact hb
      · show some x = some ((s.go _ _ _).old _)
        rw [go_other _ _ _ _ _ (by omega), show T + 1 - 1 = T by omega, hx]
        rfl
    · have hL : L = [] := List.eq_nil_of_length_eq_zero (by omega)
      subst hL
      rw [decide_eq_false hz, if_neg (by decide)]
      have hp' : 1 ≤ T := by simpa using hp
      have hsame : ∀ j, (s.go 3 0 (fun y => if y = ((T + ([] : List Int).length - 1 : Nat) : Int) then add1 ((T + ([] : List Int).length - 1 : Nat) : Int) else y)).old j = s.old j := by
        intro j
        by_cases hj : (0 : Int) = j
        · subst hj
          rw [go_old _ _ _ _ h.has0, h.top, if_neg (by simp; omega)]
        · exact go_other _ _ _ _ _ hj
      refine ⟨T, [], cl, Nat.le_refl _, h.same (go_len _ _ _ _) hsame, fun g hg => hg, fun _ => ⟨⟨(by first | exact h1 | rfl), (by first | exact h2 | rfl), (by first | exact h3 | rfl), (by first | exact h4 | rfl), .inr (.inr (.inr (.inr (.inr (.inr (.inr (.inr ⟨rfl, by simpa using hu, ?_, hp', rfl, hcl⟩)))))))⟩, .inl ⟨rfl, rfl⟩⟩, fun hd => by cases hd⟩
      show St.old _ 1 = _
      rw [hsame]
      simpa using hb
  · subst hL
    rw [popS_7 hl7, h2, hu]
    refine ⟨T, [], cl, Nat.le_refl _, CL.bottom h 2 (fun _ => (T : Int)), fun g hg => hg, fun _ => ⟨⟨(by first | exact h1 | rfl), (by first | exact h2 | rfl), (by first | exact h3 | rfl), (by first | exact h4 | rfl), .inr (.inr (.inr (.inr (.inr (.inr (.inr (.inl ⟨rfl, (by first | exact hu | rfl), h.bot1 _ _, hp, rfl, ?_⟩)))))))⟩, .inl ⟨rfl, rfl⟩⟩, fun hd => by cases hd⟩
    show cl = some ((s.go _ _ _).old _)
    rw [go_other _ _ _ _ _ (by omega)]
    exact hcl
  · subst hL
    rw [popS_58 (.inr hl8)]
    have hs : sub1 f.fu = ((T - 1 : Nat) : Int) := by
      rw [hu]
      show IntKind.u64.wrap _ = _
      rw [IntWalk.u64_in _ (by omega)]
      omega
    rw [h3, h4, hs, ring_of n hnn]
    exact ⟨T, [], cl, Nat.le_refl _, h.load _ _, fun g hg => hg, fun hd => by simp at hd, fun _ => ⟨by show (s.go _ _ _).old 1 = _; rw [go_id_old]; simpa using hb, rfl, .inl ⟨rfl, _, hcl, rfl⟩⟩⟩
  · subst hL
    have hl9' : popS s f = (s.go 2 f.qb (fun _ => f.fu), f, ⟨true, 2, 0⟩) := by
      unfold popS
      rw [if_neg (by omega), if_neg (by omega), if_neg (by omega), if_neg (by omega), if_neg (by omega), if_neg (by omega), if_neg (by omega)]
    rw [hl9', h2, hu]
    exact ⟨T, [], cl, Nat.le_refl _, CL.bottom h 2 (fun _ => (T : Int)), fun g hg => hg, fun hd => by simp at hd, fun _ => ⟨by show (s.go 2 1 (fun _ => (T : Int))).old 1 = _; rw [h.bot1]; simp, rfl, .inr ⟨by show (2 : Int) ≠ 0; decide, by show (2 : Int) ≠ 1; decide, hcl, rfl⟩⟩⟩
end
end Go.Proofs.Ytllllbepnnpeeaa
