/-
  Plain mathematics of one deque, one owner and several thieves, whose steps are interleaved: what each step does to the list of entries. No function is named but those of OwM.
-/
import Derived.Test.YtllllbepnnpeeaaGreatOwM
namespace Go.Proofs.YtllllbepnnpeeaaGreat
open Go Go.RowKit
set_option linter.unusedSimpArgs false
set_option linter.unusedVariables false

/-- The entries are L; the first one has the index T. -/
structure CL (s : St) (n t0 T : Nat) (L : List Int) : Prop where
  nn : 1 ≤ n ∧ n ≤ 100
  len : n + 2 ≤ s.X.length
  top : s.old 0 = T
  cap : L.length ≤ n
  lim : t0 ≤ T ∧ T + L.length < t0 + 1000000 ∧ t0 < 9223372036854775808
  ent : ∀ i, i < L.length → s.old ((2 + (T + i) % n : Nat) : Int) = L.getD i 0
/-- Where a push stands. -/
def PuW (s : St) (n T : Nat) (L : List Int) (f : Fra) : Prop :=
  f.qt = 0 ∧ f.qb = 1 ∧ f.qr = 2 ∧ f.qc = n ∧ s.old 1 = ((T + L.length : Nat) : Int) ∧
    (f.ln = 1 ∨ (f.ln = 2 ∧ f.fu = ((T + L.length : Nat) : Int)) ∨ (f.ln = 3 ∧ f.fu = ((T + L.length : Nat) : Int) ∧ L.length < n) ∨
      (f.ln = 4 ∧ f.fu = ((T + L.length : Nat) : Int) ∧ L.length < n ∧ s.old ((2 + (T + L.length) % n : Nat) : Int) = IntKind.u64.wrap f.fa))
/-- Where a pop stands; cl is the word that it has taken and not returned yet. -/
def PoW (s : St) (n T : Nat) (L : List Int) (f : Fra) (cl : Option Int) : Prop :=
  f.qt = 0 ∧ f.qb = 1 ∧ f.qr = 2 ∧ f.qc = n ∧
    ((f.ln = 1 ∧ s.old 1 = ((T + L.length : Nat) : Int) ∧ cl = none) ∨
     (f.ln = 2 ∧ f.fu = ((T + L.length : Nat) : Int) ∧ s.old 1 = ((T + L.length : Nat) : Int) ∧ cl = none) ∨
     (f.ln = 3 ∧ f.fu = ((T + L.length : Nat) : Int) ∧ s.old 1 = ((T + L.length : Nat) : Int) ∧ 1 ≤ T + L.length ∧ cl = none) ∨
     (f.ln = 4 ∧ f.fu = ((T + L.length : Nat) : Int) ∧ s.old 1 = ((T + L.length - 1 : Nat) : Int) ∧ 1 ≤ T + L.length ∧ cl = none) ∨
     (f.ln = 5 ∧ f.fu = ((T + L.length + 1 : Nat) : Int) ∧ s.old 1 = ((T + L.length : Nat) : Int) ∧ L.length < n ∧ cl = some (s.old ((2 + (T + L.length) % n : Nat) : Int))) ∨
     (f.ln = 6 ∧ f.fu = ((T + L.length : Nat) : Int) ∧ f.fv = ((T + L.length - 1 : Nat) : Int) ∧ s.old 1 = ((T + L.length - 1 : Nat) : Int) ∧ 1 ≤ T + L.length ∧ L.length ≤ 1 ∧ cl = none) ∨
     (f.ln = 7 ∧ f.fu = (T : Int) ∧ s.old 1 = ((T - 1 : Nat) : Int) ∧ 1 ≤ T ∧ L = [] ∧ cl = some (s.old ((2 + (T - 1) % n : Nat) : Int))) ∨
     (f.ln = 8 ∧ f.fu = (T : Int) ∧ s.old 1 = (T : Int) ∧ 1 ≤ T ∧ L = [] ∧ cl = some (s.old ((2 + (T - 1) % n : Nat) : Int))) ∨
     (f.ln = 9 ∧ f.fu = (T : Int) ∧ s.old 1 = ((T - 1 : Nat) : Int) ∧ 1 ≤ T ∧ L = [] ∧ cl = none))
/-- What the owner does: nothing, a push, a pop. -/
inductive Own where
  | rest
  | push (f : Fra)
  | pop (f : Fra)
def OW (s : St) (n T : Nat) (L : List Int) (cl : Option Int) : Own → Prop
  | .rest => s.old 1 = ((T + L.length : Nat) : Int) ∧ cl = none
  | .push f => PuW s n T L f ∧ cl = none
  | .pop f => PoW s n T L f cl
/-- Where a steal stands. -/
def TH (n t0 T : Nat) (L : List Int) (f : Fra) : Prop :=
  f.qt = 0 ∧ f.qb = 1 ∧ f.qr = 2 ∧ f.qc = n ∧
    (f.ln = 1 ∨ ∃ t : Nat, t0 ≤ t ∧ t ≤ T ∧ f.fv = (t : Int) ∧ (f.ln = 2 ∨ (f.ln = 3 ∧ (t = T → 0 < L.length)) ∨ (f.ln = 4 ∧ (t = T → 0 < L.length ∧ f.fw = L.getD 0 0))))

section
variable {s : St} {n t0 T : Nat} {L : List Int} {cl : Option Int}
theorem CL.load (h : CL s n t0 T L) (k i : Int) : CL (s.go k i id) n t0 T L :=
  ⟨h.nn, by rw [go_len]; exact h.len, by rw [go_id_old]; exact h.top, h.cap, h.lim, fun j hj => by rw [go_id_old]; exact h.ent j hj⟩
theorem OW.same {s' : St} {o : Own} (h : OW s n T L cl o) (e : ∀ j, s'.old j = s.old j) : OW s' n T L cl o := by
  cases o with
  | rest => exact ⟨by rw [e]; exact h.1, h.2⟩
  | push f =>
    obtain ⟨h1, h2⟩ := h
    unfold OW PuW at *
    simp only [e]
    exact ⟨h1, h2⟩
  | pop f =>
    unfold OW PoW at *
    simp only [e]
    exact h
/-- Bottom is at most one less than the end. -/
theorem OW.bot {o : Own} (h : OW s n T L cl o) : ∃ u : Nat, s.old 1 = (u : Int) ∧ u ≤ T + L.length ∧ T + L.length ≤ u + 1 := by
  cases o with
  | rest => exact ⟨_, h.1, by omega, by omega⟩
  | push f => exact ⟨_, h.1.2.2.2.2.1, by omega, by omega⟩
  | pop f =>
    obtain ⟨_, _, _, _, h⟩ := h
    rcases h with ⟨_, h, _⟩ | ⟨_, _, h, _⟩ | ⟨_, _, h, _⟩ | ⟨_, _, h, _⟩ | ⟨_, _, h, _⟩ | ⟨_, _, _, h, _⟩ | ⟨_, _, h, _, e, _⟩ | ⟨_, _, h, _, e, _⟩ | ⟨_, _, h, _, e, _⟩
    · exact ⟨_, h, by omega, by omega⟩
    · exact ⟨_, h, by omega, by omega⟩
    · exact ⟨_, h, by omega, by omega⟩
    · exact ⟨_, h, by omega, by omega⟩
    · exact ⟨_, h, by omega, by omega⟩
    · exact ⟨_, h, by omega, by omega⟩
    · subst e; exact ⟨_, h, by simp, by simp; omega⟩
    · subst e; exact ⟨_, h, by simp, by simp⟩
    · subst e; exact ⟨_, h, by simp, by simp; omega⟩
theorem TH.tail {x : Int} {f : Fra} (h : TH n t0 T (x :: L) f) : TH n t0 (T + 1) L f := by
  obtain ⟨h1, h2, h3, h4, h⟩ := h
  refine ⟨h1, h2, h3, h4, ?_⟩
  rcases h with h | ⟨t, a, b, c, h⟩
  · exact .inl h
  · refine .inr ⟨t, a, by omega, c, ?_⟩
    rcases h with h | ⟨h, _⟩ | ⟨h, _⟩
    · exact .inl h
    · exact .inr (.inl ⟨h, fun e => by omega⟩)
    · exact .inr (.inr ⟨h, fun e => by omega⟩)
theorem TH.keep {L' : List Int} {f : Fra} (h : TH n t0 T L f) (hl : 0 < L.length → 0 < L'.length ∧ L'.getD 0 0 = L.getD 0 0) : TH n t0 T L' f := by
  obtain ⟨h1, h2, h3, h4, h⟩ := h
  refine ⟨h1, h2, h3, h4, ?_⟩
  rcases h with h | ⟨t, a, b, c, h⟩
  · exact .inl h
  · refine .inr ⟨t, a, b, c, ?_⟩
    rcases h with h | ⟨h, k⟩ | ⟨h, k⟩
    · exact .inl h
    · exact .inr (.inl ⟨h, fun e => (hl (k e)).1⟩)
    · exact .inr (.inr ⟨h, fun e => ⟨(hl (k e).1).1, by rw [(hl (k e).1).2]; exact (k e).2⟩⟩)
theorem size_int {u t : Nat} (h : u < t + 1000000) (h' : t ≤ u + 1000000) (hb : u < 18446744073709551616 ∧ t < 18446744073709551616) : sizeI (u : Int) (t : Int) = (u : Int) - (t : Int) := by
  unfold sizeI
  rw [IntKind.wrap_u64]
  unfold wrap64
  omega
/-- The head goes: an entry is taken at Top. -/
theorem CL.head {x : Int} {k : Int} {F : Int → Int} (h : CL s n t0 T (x :: L)) (hF : F (T : Int) = ((T + 1 : Nat) : Int)) : CL (s.go k 0 F) n t0 (T + 1) L := by
  have hl := h.lim
  have hc := h.cap
  simp only [List.length_cons] at hl hc
  have hh : s.has 0 := ⟨by omega, by have := h.len; omega⟩
  refine ⟨h.nn, by rw [go_len]; exact h.len, ?_, by omega, ⟨by omega, by omega, hl.2.2⟩, fun i hi => ?_⟩
  · rw [go_old _ _ _ _ hh, h.top]
    exact hF
  · rw [go_other _ _ _ _ _ (by omega)]
    have := h.ent (i + 1) (by simp; omega)
    rw [show T + (i + 1) = T + 1 + i by omega] at this
    rw [this]
    simp
/-- .. and the owner does not mind. -/
theorem OW.head {x : Int} {k : Int} {F : Int → Int} {o : Own} (h : OW s n T (x :: L) cl o) : OW (s.go k 0 F) n (T + 1) L cl o := by
  have e : ∀ j, j ≠ 0 → (s.go k 0 F).old j = s.old j := fun j hj => go_other _ _ _ _ _ (fun e => hj e.symm)
  have e1 : (s.go k 0 F).old 1 = s.old 1 := e 1 (by omega)
  have e2 : ∀ j : Nat, (s.go k 0 F).old ((2 + j : Nat) : Int) = s.old ((2 + j : Nat) : Int) := fun j => e _ (by omega)
  have hT : T + (x :: L).length = T + 1 + L.length := by simp; omega
  cases o with
  | rest =>
    refine ⟨?_, h.2⟩
    rw [e1, ← hT]
    exact h.1
  | push f =>
    obtain ⟨⟨h1, h2, h3, h4, h5, h⟩, hc⟩ := h
    rw [hT] at h5 h
    refine ⟨⟨h1, h2, h3, h4, by rw [e1]; exact h5, ?_⟩, hc⟩
    rcases h with h | h | ⟨h, k1, k2⟩ | ⟨h, k1, k2, k3⟩
    · exact .inl h
    · exact .inr (.inl h)
    · exact .inr (.inr (.inl ⟨h, k1, by have := k2; simp only [List.length_cons] at this; omega⟩))
    · exact .inr (.inr (.inr ⟨h, k1, by have := k2; simp only [List.length_cons] at this; omega, by rw [e2]; exact k3⟩))
  | pop f =>
    obtain ⟨h1, h2, h3, h4, h⟩ := h
    rw [hT] at h
    refine ⟨h1, h2, h3, h4, ?_⟩
    rw [e1, e2, e2]
    rcases h with h | h | h | h | ⟨h, k1, k2, k3, k4⟩ | ⟨h, k1, k2, k3, k4, k5, k6⟩ | ⟨_, _, _, _, h, _⟩ | ⟨_, _, _, _, h, _⟩ | ⟨_, _, _, _, h, _⟩
    · exact .inl h
    · exact .inr (.inl h)
    · exact .inr (.inr (.inl h))
    · exact .inr (.inr (.inr (.inl h)))
    · exact .inr (.inr (.inr (.inr (.inl ⟨h, k1, k2, by have := k3; simp only [List.length_cons] at this; omega, k4⟩))))
    · exact .inr (.inr (.inr (.inr (.inr (.inl ⟨h, k1, k2, k3, k4, by have := k5; simp only [List.length_cons] at this; omega, k6⟩)))))
    · cases h
    · cases h
    · cases h

/-- A step of a steal. -/
theorem thief_step {f : Fra} {o : Own} (h : CL s n t0 T L) (ho : OW s n T L cl o) (hf : TH n t0 T L f) : ∃ T' L', T' + L'.length ≤ T + L.length ∧ CL (stealS s f).1 n t0 T' L' ∧ OW (stealS s f).1 n T' L' cl o ∧ (∀ g, TH n t0 T L g → TH n t0 T' L' g) ∧
    ((stealS s f).2.2.dn = false → TH n t0 T' L' (stealS s f).2.1 ∧ L' = L) ∧
    ((stealS s f).2.2.dn = true → ((stealS s f).2.2.cd = 1 ∧ ∃ x, L = x :: L' ∧ (stealS s f).2.2.vl = wrap64 x) ∨ ((stealS s f).2.2.cd ≠ 1 ∧ L' = L)) := by
  have hlim := h.lim
  have hnn := h.nn
  obtain ⟨h1, h2, h3, h4, hl⟩ := hf
  rcases hl with hl | ⟨t, ht0, htT, hv, hl | ⟨hl, hk⟩ | ⟨hl, hk⟩⟩
  · have e : stealS s f = (s.go 1 f.qt id, { f with fv := s.old f.qt, ln := 2 }, .none) := by unfold stealS; rw [if_pos hl]
    rw [e]
    refine ⟨T, L, Nat.le_refl _, h.load _ _, ho.same (fun j => go_id_old _ _ _ _), fun g hg => hg, fun _ => ⟨⟨h1, h2, h3, h4, .inr ⟨T, hlim.1, Nat.le_refl _, ?_, .inl rfl⟩⟩, rfl⟩, fun hd => by cases hd⟩
    show s.old f.qt = _
    rw [h1]
    exact h.top
  · obtain ⟨u, hu, hu1, hu2⟩ := ho.bot
    have hsz : sizeI (s.old f.qb) f.fv = (u : Int) - (t : Int) := by
      rw [h2, hv, hu]
      exact size_int (by omega) (by omega) (by omega)
    by_cases hc : sizeI (s.old f.qb) f.fv ≤ 0
    · have e : stealS s f = (s.go 1 f.qb id, { f with fu := s.old f.qb }, ⟨true, 2, 0⟩) := by unfold stealS; rw [if_neg (by omega), if_pos hl, if_pos hc]
      rw [e]
      exact ⟨T, L, Nat.le_refl _, h.load _ _, ho.same (fun j => go_id_old _ _ _ _), fun g hg => hg, fun hd => by simp at hd, fun _ => .inr ⟨by show (2 : Int) ≠ 1; decide, rfl⟩⟩
    · have e : stealS s f = (s.go 1 f.qb id, { f with fu := s.old f.qb, ln := 3 }, .none) := by unfold stealS; rw [if_neg (by omega), if_pos hl, if_neg hc]
      rw [e]
      exact ⟨T, L, Nat.le_refl _, h.load _ _, ho.same (fun j => go_id_old _ _ _ _), fun g hg => hg, fun _ => ⟨⟨h1, h2, h3, h4, .inr ⟨t, ht0, htT, hv, .inr (.inl ⟨rfl, fun e => by omega⟩)⟩⟩, rfl⟩, fun hd => by cases hd⟩
  · have e : stealS s f = (s.go 1 (ringI f.qr f.qc f.fv) id, { f with fw := s.old (ringI f.qr f.qc f.fv), ln := 4 }, .none) := by unfold stealS; rw [if_neg (by omega), if_neg (by omega), if_pos hl]
    rw [e]
    refine ⟨T, L, Nat.le_refl _, h.load _ _, ho.same (fun j => go_id_old _ _ _ _), fun g hg => hg, fun _ => ⟨⟨h1, h2, h3, h4, .inr ⟨t, ht0, htT, hv, .inr (.inr ⟨rfl, fun e => ⟨hk e, ?_⟩⟩)⟩⟩, rfl⟩, fun hd => by cases hd⟩
    show s.old (ringI f.qr f.qc f.fv) = _
    rw [h3, h4, hv, ring_of n hnn, e]
    have := h.ent 0 (hk e)
    rwa [Nat.add_zero] at this
  · have hh : s.has 0 := ⟨by omega, by have := h.len; omega⟩
    have e : stealS s f = (s.go 3 f.qt (fun x => if x = f.fv then add1 f.fv else x), f, if s.hit f.qt f.fv then ⟨true, 1, wrap64 f.fw⟩ else ⟨true, 4, 0⟩) := by unfold stealS; rw [if_neg (by omega), if_neg (by omega), if_neg (by omega)]
    rw [e, h1, hv]
    have hhit : s.hit 0 (t : Int) = decide (t = T) := by
      unfold St.hit
      rw [decide_eq_true hh, h.top, Bool.true_and, Bool.eq_iff_iff]
      simp
      omega
    by_cases htt : t = T
    · obtain ⟨k1, k2⟩ := hk htt
      obtain ⟨x, L', rfl⟩ : ∃ x L', L = x :: L' := by
        cases L with
        | nil => simp at k1
        | cons x L' => exact ⟨x, L', rfl⟩
      rw [hhit, decide_eq_true htt]
      refine ⟨T + 1, L', (by simp only [List.length_cons]; omega), CL.head (F := fun x => if x = (t : Int) then add1 (t : Int) else x) h ?_, OW.head (F := fun x => if x = (t : Int) then add1 (t : Int) else x) ho, fun g hg => hg.tail, fun hd => by simp at hd, fun _ => .inl ⟨rfl, x, rfl, ?_⟩⟩
      · show (if (T : Int) = (t : Int) then add1 (t : Int) else (T : Int)) = _
        rw [if_pos (by omega), htt]
        show IntKind.u64.wrap _ = _
        rw [IntWalk.u64_in _ (by omega)]
        omega
      · show wrap64 f.fw = wrap64 x
        rw [k2]
        rfl
    · rw [hhit, decide_eq_false htt]
      have hsame : ∀ j, (s.go 3 0 (fun x => if x = (t : Int) then add1 (t : Int) else x)).old j = s.old j := by
        intro j
        by_cases hj : (0 : Int) = j
        · subst hj
          rw [go_old _ _ _ _ hh, h.top, if_neg (by omega)]
        · exact go_other _ _ _ _ _ hj
      refine ⟨T, L, Nat.le_refl _, ⟨h.nn, by rw [go_len]; exact h.len, by rw [hsame]; exact h.top, h.cap, h.lim, fun i hi => by rw [hsame]; exact h.ent i hi⟩, ho.same hsame, fun g hg => hg, fun hd => by simp at hd, fun _ => .inr ⟨by simp, rfl⟩⟩
end
end Go.Proofs.YtllllbepnnpeeaaGreat
