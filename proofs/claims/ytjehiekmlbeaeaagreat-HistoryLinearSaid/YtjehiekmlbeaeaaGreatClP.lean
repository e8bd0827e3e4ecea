/-
  Plain mathematics of one deque, one owner and several thieves, more exactly: which end an entry is taken from, what a thief has seen. No function is named.
-/
import Derived.Test.YtjehiekmlbeaeaaGreatMgAH
namespace Go.Proofs.YtjehiekmlbeaeaaGreat
open Go Go.RowKit
set_option linter.unusedSimpArgs false
set_option linter.unusedVariables false

section
variable {s : St} {n t0 T : Nat} {L : List Int} {cl : Option Int}
/-- A step of a pop, with what it leaves of Top and which end it takes from. -/
theorem pop_fine {f : Fra} (h : CL s n t0 T L) (hw : PoW s n T L f cl) : ∃ T' L' cl', T' + L'.length ≤ T + L.length ∧ CL (popS s f).1 n t0 T' L' ∧ (∀ g, TH n t0 T L g → TH n t0 T' L' g) ∧
    ((popS s f).2.2.dn = false → PoW (popS s f).1 n T' L' (popS s f).2.1 cl' ∧ ((cl' = cl ∧ L' = L ∧ T' = T) ∨ (cl = none ∧ ∃ x, cl' = some x ∧ L = L' ++ [x]))) ∧
    ((popS s f).2.2.dn = true → (popS s f).1.old 1 = ((T' + L'.length : Nat) : Int) ∧ L' = L ∧ T' = T ∧ (((popS s f).2.2.cd = 1 ∧ ∃ x, cl = some x ∧ (popS s f).2.2.vl = IntKind.i64.wrap x) ∨ ((popS s f).2.2.cd = 2 ∧ cl = none ∧ L = []))) := by
  have hl := h.lim
  have hnn := h.nn
  have hcap := h.cap
  obtain ⟨h1, h2, h3, h4, hw⟩ := hw
  rcases hw with ⟨hl1, hb, hcl⟩ | ⟨hl2, hu, hb, hcl⟩ | ⟨hl3, hu, hb, hp, hcl⟩ | ⟨hl4, hu, hb, hp, hcl⟩ | ⟨hl5, hu, hb, hr, hcl⟩ | ⟨hl6, hu, hv, hb, hp, hr, hcl⟩ | ⟨hl7, hu, hb, hp, hL, hcl⟩ | ⟨hl8, hu, hb, hp, hL, hcl⟩ | ⟨hl9, hu, hb, hp, hL, hcl⟩
  · rw [popS_1 hl1]
    refine ⟨T, L, cl, Nat.le_refl _, h.load _ _, fun g hg => hg, fun _ => ⟨⟨(by first | exact h1 | rfl), (by first | exact h2 | rfl), (by first | exact h3 | rfl), (by first | exact h4 | rfl), .inr (.inl ⟨rfl, ?_, by rw [go_id_old]; exact hb, hcl⟩)⟩, .inl ⟨rfl, rfl, rfl⟩⟩, fun hd => by cases hd⟩
    show s.old f.qb = _
    rw [h2]
    exact hb
  · have hsz : sizeI f.fu (s.old f.qt) = (L.length : Int) := by
      rw [hu, h1, h.top, size_of (by omega) (by omega)]
      omega
    by_cases hc : sizeI f.fu (s.old f.qt) ≤ 0
    · rw [popS_2e hl2 hc]
      exact ⟨T, L, cl, Nat.le_refl _, h.load _ _, fun g hg => hg, fun hd => by simp at hd, fun _ => ⟨by show (s.go _ _ _).old 1 = _; rw [go_id_old]; exact hb, rfl, rfl, .inr ⟨rfl, hcl, List.eq_nil_of_length_eq_zero (by omega)⟩⟩⟩
    · rw [popS_2 hl2 hc]
      exact ⟨T, L, cl, Nat.le_refl _, h.load _ _, fun g hg => hg, fun _ => ⟨⟨(by first | exact h1 | rfl), (by first | exact h2 | rfl), (by first | exact h3 | rfl), (by first | exact h4 | rfl), .inr (.inr (.inl ⟨rfl, (by first | exact hu | rfl), by rw [go_id_old]; exact hb, by omega, hcl⟩))⟩, .inl ⟨rfl, rfl, rfl⟩⟩, fun hd => by cases hd⟩
  · rw [popS_3 hl3, h2, hu]
    have hs : sub1 ((T + L.length : Nat) : Int) = ((T + L.length - 1 : Nat) : Int) := by
      show IntKind.u64.wrap _ = _
      rw [IntWalk.u64_in _ (by omega)]
      omega
    refine ⟨T, L, cl, Nat.le_refl _, CL.bottom h 2 (fun _ => sub1 ((T + L.length : Nat) : Int)), fun g hg => hg, fun _ => ⟨⟨(by first | exact h1 | rfl), (by first | exact h2 | rfl), (by first | exact h3 | rfl), (by first | exact h4 | rfl), .inr (.inr (.inr (.inl ⟨rfl, (by first | exact hu | rfl), ?_, hp, hcl⟩)))⟩, .inl ⟨rfl, rfl, rfl⟩⟩, fun hd => by cases hd⟩
    show (s.go 2 1 (fun _ => sub1 ((T + L.length : Nat) : Int))).old 1 = _
    rw [h.bot1, hs]
  · rw [popS_4 hl4]
    have hs : sub1 f.fu = ((T + L.length - 1 : Nat) : Int) := by
      rw [hu]
      show IntKind.u64.wrap _ = _
      rw [IntWalk.u64_in _ (by omega)]
      omega
    have hsz : sizeI (sub1 f.fu) (s.old f.qt) = (L.length : Int) - 1 := by
      rw [hs, h1, h.top, size_int (by omega) (by omega) (by omega)]
      omega
    rw [hsz]
    rcases Nat.lt_trichotomy L.length 1 with hz | hz | hz
    · have hL : L = [] := List.eq_nil_of_length_eq_zero (by omega)
      subst hL
      have hp4 : pop4 ((([] : List Int).length : Int) - 1) = 9 := by decide
      rw [hp4]
      refine ⟨T, [], cl, Nat.le_refl _, h.load _ _, fun g hg => hg, fun _ => ⟨⟨(by first | exact h1 | rfl), (by first | exact h2 | rfl), (by first | exact h3 | rfl), (by first | exact h4 | rfl), .inr (.inr (.inr (.inr (.inr (.inr (.inr (.inr ⟨rfl, by simpa using hu, ?_, by simpa using hp, rfl, hcl⟩)))))))⟩, .inl ⟨rfl, rfl, rfl⟩⟩, fun hd => by cases hd⟩
      show (s.go _ _ _).old 1 = _
      rw [go_id_old]
      simpa using hb
    · have hp4 : pop4 ((L.length : Int) - 1) = 6 := by rw [hz]; decide
      rw [hp4]
      refine ⟨T, L, cl, Nat.le_refl _, h.load _ _, fun g hg => hg, fun _ => ⟨⟨(by first | exact h1 | rfl), (by first | exact h2 | rfl), (by first | exact h3 | rfl), (by first | exact h4 | rfl), .inr (.inr (.inr (.inr (.inr (.inl ⟨rfl, (by first | exact hu | rfl), ?_, ?_, hp, by omega, hcl⟩)))))⟩, .inl ⟨rfl, rfl, rfl⟩⟩, fun hd => by cases hd⟩
      · show s.old f.qt = _
        rw [h1, h.top]
        omega
      · show (s.go _ _ _).old 1 = _
        rw [go_id_old]
        exact hb
    · have hp4 : pop4 ((L.length : Int) - 1) = 5 := by
        unfold pop4
        rw [if_neg (by omega), if_neg (by omega)]
      rw [hp4]
      obtain ⟨L0, x, rfl⟩ : ∃ l0 x, L = l0 ++ [x] := ⟨L.dropLast, L.getLast (by intro e; rw [e] at hz; simp at hz), (List.dropLast_concat_getLast (by intro e; rw [e] at hz; simp at hz)).symm⟩
      have hlen : (L0 ++ [x]).length = L0.length + 1 := by simp
      rw [hlen] at hz hu hb hl hcap
      have hx : s.old ((2 + (T + L0.length) % n : Nat) : Int) = x := by
        rw [h.ent L0.length (by omega)]
        simp
      have hcl0 : CL s n t0 T L0 := ⟨h.nn, h.len, h.top, by omega, ⟨hl.1, by omega, hl.2.2⟩, fun i hi => by rw [h.ent i (by omega), List.getD_eq_getElem?_getD, List.getD_eq_getElem?_getD, List.getElem?_append_left hi]⟩
      refine ⟨T, L0, some x, (by omega), hcl0.load _ _, fun g hg => hg.keep (fun _ => ⟨by omega, by rw [List.getD_eq_getElem?_getD, List.getD_eq_getElem?_getD, List.getElem?_append_left (by omega)]⟩), fun _ => ⟨⟨(by first | exact h1 | rfl), (by first | exact h2 | rfl), (by first | exact h3 | rfl), (by first | exact h4 | rfl), .inr (.inr (.inr (.inr (.inl ⟨rfl, (by first | exact hu | rfl), ?_, by omega, ?_⟩))))⟩, .inr ⟨hcl, x, rfl, rfl⟩⟩, fun hd => by cases hd⟩
      · show (s.go _ _ _).old 1 = _
        rw [go_id_old, hb]
        omega
      · show some x = some ((s.go _ _ _).old _)
        rw [go_id_old, hx]
  · rw [popS_58 (.inl hl5)]
    have hs : sub1 f.fu = ((T + L.length : Nat) : Int) := by
      rw [hu]
      show IntKind.u64.wrap _ = _
      rw [IntWalk.u64_in _ (by omega)]
      omega
    rw [h3, h4, hs, ring_of n hnn]
    exact ⟨T, L, cl, Nat.le_refl _, h.load _ _, fun g hg => hg, fun hd => by simp at hd, fun _ => ⟨by show (s.go _ _ _).old 1 = _; rw [go_id_old]; exact hb, rfl, rfl, .inl ⟨rfl, _, hcl, rfl⟩⟩⟩
  · rw [popS_6 hl6, h1, hv]
    have hhit : s.hit 0 ((T + L.length - 1 : Nat) : Int) = decide (L.length = 1) := by
      unfold St.hit
      rw [decide_eq_true h.has0, h.top, Bool.true_and, Bool.eq_iff_iff]
      simp
      omega
    rw [hhit]
    by_cases hz : L.length = 1
    · obtain ⟨x, rfl⟩ : ∃ x, L = [x] := List.length_eq_one_iff.1 hz
      rw [decide_eq_true hz, if_pos rfl]
      have hF : (fun y => if y = ((T + [x].length - 1 : Nat) : Int) then add1 ((T + [x].length - 1 : Nat) : Int) else y) (T : Int) = ((T + 1 : Nat) : Int) := by
        show (if (T : Int) = ((T + 1 - 1 : Nat) : Int) then add1 ((T + 1 - 1 : Nat) : Int) else (T : Int)) = _
        rw [if_pos (by omega)]
        show IntKind.u64.wrap _ = _
        rw [IntWalk.u64_in _ (by omega)]
        omega
      have hH := CL.head (k := 3) (F := fun y => if y = ((T + [x].length - 1 : Nat) : Int) then add1 ((T + [x].length - 1 : Nat) : Int) else y) h hF
      have hx := h.ent 0 (by simp)
      rw [Nat.add_zero] at hx
      refine ⟨T + 1, [], some x, (by simp), hH, fun g hg => hg.tail, fun _ => ⟨⟨(by first | exact h1 | rfl), (by first | exact h2 | rfl), (by first | exact h3 | rfl), (by first | exact h4 | rfl), .inr (.inr (.inr (.inr (.inr (.inr (.inl ⟨rfl, (by first | exact hu | rfl), ?_, by omega, rfl, ?_⟩))))))⟩, .inr ⟨hcl, x, rfl, rfl⟩⟩, fun hd => by cases hd⟩
      · show (s.go _ _ _).old 1 = _
        rw [go_other _ _ _ _ _ (by omega)]
        exact hb
      · show some x = some ((s.go _ _ _).old _)
        rw [go_other _ _ _ _ _ (by omega), show T + 1 - 1 = T by omega, hx]
        rfl
    · have hL : L = [] := List.eq_nil_of_length_eq_zero (by omega)
      subst hL
      rw [decide_eq_false hz, if_neg (by decide)]
      have hp' : 1 ≤ T := by simpa using hp
      have hsame : ∀ j, (s.go 3 0 (fun y => if y = ((T + ([] : List Int).length - 1 : Nat) : Int) then add1 ((T + ([] : List Int).length - 1 : Nat) : Int) else y)).old j = s.old j := by
        intro j
        by_cases hj : (0 : Int) = j
        · subst hj
          rw [go_old _ _ _ _ h.has0, h.top, if_neg (by simp; omega)]
        · exact go_other _ _ _ _ _ hj
      refine ⟨T, [], cl, Nat.le_refl _, h.same (go_len _ _ _ _) hsame, fun g hg => hg, fun _ => ⟨⟨(by first | exact h1 | rfl), (by first | exact h2 | rfl), (by first | exact h3 | rfl), (by first | exact h4 | rfl), .inr (.inr (.inr (.inr (.inr (.inr (.inr (.inr ⟨rfl, by simpa using hu, ?_, hp', rfl, hcl⟩)))))))⟩, .inl ⟨rfl, rfl, rfl⟩⟩, fun hd => by cases hd⟩
      show St.old _ 1 = _
      rw [hsame]
      simpa using hb
  · subst hL
    rw [popS_7 hl7, h2, hu]
    refine ⟨T, [], cl, Nat.le_refl _, CL.bottom h 2 (fun _ => (T : Int)), fun g hg => hg, fun _ => ⟨⟨(by first | exact h1 | rfl), (by first | exact h2 | rfl), (by first | exact h3 | rfl), (by first | exact h4 | rfl), .inr (.inr (.inr (.inr (.inr (.inr (.inr (.inl ⟨rfl, (by first | exact hu | rfl), h.bot1 _ _, hp, rfl, ?_⟩)))))))⟩, .inl ⟨rfl, rfl, rfl⟩⟩, fun hd => by cases hd⟩
    show cl = some ((s.go _ _ _).old _)
    rw [go_other _ _ _ _ _ (by omega)]
    exact hcl
  · subst hL
    rw [popS_58 (.inr hl8)]
    have hs : sub1 f.fu = ((T - 1 : Nat) : Int) := by
      rw [hu]
      show IntKind.u64.wrap _ = _
      rw [IntWalk.u64_in _ (by omega)]
      omega
    rw [h3, h4, hs, ring_of n hnn]
    exact ⟨T, [], cl, Nat.le_refl _, h.load _ _, fun g hg => hg, fun hd => by simp at hd, fun _ => ⟨by show (s.go _ _ _).old 1 = _; rw [go_id_old]; simpa using hb, rfl, rfl, .inl ⟨rfl, _, hcl, rfl⟩⟩⟩
  · subst hL
    have hl9' : popS s f = (s.go 2 f.qb (fun _ => f.fu), f, ⟨true, 2, 0⟩) := by
      unfold popS
      rw [if_neg (by omega), if_neg (by omega), if_neg (by omega), if_neg (by omega), if_neg (by omega), if_neg (by omega), if_neg (by omega)]
    rw [hl9', h2, hu]
    exact ⟨T, [], cl, Nat.le_refl _, CL.bottom h 2 (fun _ => (T : Int)), fun g hg => hg, fun hd => by simp at hd, fun _ => ⟨by show (s.go 2 1 (fun _ => (T : Int))).old 1 = _; rw [h.bot1]; simp, rfl, rfl, .inr ⟨rfl, hcl, rfl⟩⟩⟩

/-- A step of a steal, with its line and what it has seen. -/
theorem thief_fine {f : Fra} {o : Own} (h : CL s n t0 T L) (ho : OW s n T L cl o) (hf : TH n t0 T L f) : ∃ T' L', T' + L'.length ≤ T + L.length ∧ CL (stealS s f).1 n t0 T' L' ∧ OW (stealS s f).1 n T' L' cl o ∧ (∀ g, TH n t0 T L g → TH n t0 T' L' g) ∧ (L' = L → (stealS s f).1.old 1 = s.old 1) ∧
    ((stealS s f).2.2.dn = false → TH n t0 T' L' (stealS s f).2.1 ∧ L' = L ∧ T' = T ∧ ((f.ln = 1 ∧ (stealS s f).2.1.ln = 2 ∧ (stealS s f).2.1.fv = T) ∨ (f.ln = 2 ∧ (stealS s f).2.1.ln = 3 ∧ (stealS s f).2.1.fv = f.fv ∧ f.fv < s.old 1) ∨ (f.ln = 3 ∧ (stealS s f).2.1.ln = 4 ∧ (stealS s f).2.1.fv = f.fv))) ∧
    ((stealS s f).2.2.dn = true → ((stealS s f).2.2.cd = 1 ∧ f.ln = 4 ∧ f.fv = T ∧ T' = T + 1 ∧ ∃ x, L = x :: L' ∧ (stealS s f).2.2.vl = wrap64 x) ∨ ((stealS s f).2.2.cd = 2 ∧ f.ln = 2 ∧ L' = L ∧ T' = T ∧ s.old 1 ≤ T ∧ (stealS s f).2.2.vl = 0) ∨ ((stealS s f).2.2.cd = 4 ∧ f.ln = 4 ∧ f.fv ≠ T ∧ L' = L ∧ T' = T ∧ (stealS s f).2.2.vl = 0)) := by
  have hlim := h.lim
  have hnn := h.nn
  obtain ⟨h1, h2, h3, h4, hl⟩ := hf
  rcases hl with hl | ⟨t, ht0, htT, hv, hl | ⟨hl, hk⟩ | ⟨hl, hk⟩⟩
  · have e : stealS s f = (s.go 1 f.qt id, { f with fv := s.old f.qt, ln := 2 }, .none) := by unfold stealS; rw [if_pos hl]
    rw [e]
    refine ⟨T, L, Nat.le_refl _, h.load _ _, ho.same (fun j => go_id_old _ _ _ _), fun g hg => hg, fun _ => go_id_old _ _ _ _, fun _ => ⟨⟨h1, h2, h3, h4, .inr ⟨T, hlim.1, Nat.le_refl _, ?_, .inl rfl⟩⟩, rfl, rfl, .inl ⟨hl, rfl, ?_⟩⟩, fun hd => by cases hd⟩
    all_goals
      show s.old f.qt = _
      rw [h1]
      exact h.top
  · obtain ⟨u, hu, hu1, hu2⟩ := ho.bot
    have hsz : sizeI (s.old f.qb) f.fv = (u : Int) - (t : Int) := by
      rw [h2, hv, hu]
      exact size_int (by omega) (by omega) (by omega)
    by_cases hc : sizeI (s.old f.qb) f.fv ≤ 0
    · have e : stealS s f = (s.go 1 f.qb id, { f with fu := s.old f.qb }, ⟨true, 2, 0⟩) := by unfold stealS; rw [if_neg (by omega), if_pos hl, if_pos hc]
      rw [e]
      exact ⟨T, L, Nat.le_refl _, h.load _ _, ho.same (fun j => go_id_old _ _ _ _), fun g hg => hg, fun _ => go_id_old _ _ _ _, fun hd => by simp at hd, fun _ => .inr (.inl ⟨rfl, hl, rfl, rfl, by rw [hu]; omega, rfl⟩)⟩
    · have e : stealS s f = (s.go 1 f.qb id, { f with fu := s.old f.qb, ln := 3 }, .none) := by unfold stealS; rw [if_neg (by omega), if_pos hl, if_neg hc]
      rw [e]
      exact ⟨T, L, Nat.le_refl _, h.load _ _, ho.same (fun j => go_id_old _ _ _ _), fun g hg => hg, fun _ => go_id_old _ _ _ _, fun _ => ⟨⟨h1, h2, h3, h4, .inr ⟨t, ht0, htT, hv, .inr (.inl ⟨rfl, fun e => by omega⟩)⟩⟩, rfl, rfl, .inr (.inl ⟨hl, rfl, rfl, by rw [hv, hu]; omega⟩)⟩, fun hd => by cases hd⟩
  · have e : stealS s f = (s.go 1 (ringI f.qr f.qc f.fv) id, { f with fw := s.old (ringI f.qr f.qc f.fv), ln := 4 }, .none) := by unfold stealS; rw [if_neg (by omega), if_neg (by omega), if_pos hl]
    rw [e]
    refine ⟨T, L, Nat.le_refl _, h.load _ _, ho.same (fun j => go_id_old _ _ _ _), fun g hg => hg, fun _ => go_id_old _ _ _ _, fun _ => ⟨⟨h1, h2, h3, h4, .inr ⟨t, ht0, htT, hv, .inr (.inr ⟨rfl, fun e => ⟨hk e, ?_⟩⟩)⟩⟩, rfl, rfl, .inr (.inr ⟨hl, rfl, rfl⟩)⟩, fun hd => by cases hd⟩
    show s.old (ringI f.qr f.qc f.fv) = _
    rw [h3, h4, hv, ring_of n hnn, e]
    have := h.ent 0 (hk e)
    rwa [Nat.add_zero] at this
  · have hh : s.has 0 := ⟨by omega, by have := h.len; omega⟩
    have e : stealS s f = (s.go 3 f.qt (fun x => if x = f.fv then add1 f.fv else x), f, if s.hit f.qt f.fv then ⟨true, 1, wrap64 f.fw⟩ else ⟨true, 4, 0⟩) := by unfold stealS; rw [if_neg (by omega), if_neg (by omega), if_neg (by omega)]
    rw [e, h1, hv]
    have hhit : s.hit 0 (t : Int) = decide (t = T) := by
      unfold St.hit
      rw [decide_eq_true hh, h.top, Bool.true_and, Bool.eq_iff_iff]
      simp
      omega
    by_cases htt : t = T
    · obtain ⟨k1, k2⟩ := hk htt
      obtain ⟨x, L', rfl⟩ : ∃ x L', L = x :: L' := by
        cases L with
        | nil => simp at k1
        | cons x L' => exact ⟨x, L', rfl⟩
      rw [hhit, decide_eq_true htt]
      refine ⟨T + 1, L', (by simp only [List.length_cons]; omega), CL.head (F := fun x => if x = (t : Int) then add1 (t : Int) else x) h ?_, OW.head (F := fun x => if x = (t : Int) then add1 (t : Int) else x) ho, fun g hg => hg.tail, fun e => absurd (congrArg List.length e) (by simp), fun hd => by simp at hd, fun _ => .inl ⟨rfl, hl, by first | rw [hv, htt] | omega, rfl, x, rfl, ?_⟩⟩
      · show (if (T : Int) = (t : Int) then add1 (t : Int) else (T : Int)) = _
        rw [if_pos (by omega), htt]
        show IntKind.u64.wrap _ = _
        rw [IntWalk.u64_in _ (by omega)]
        omega
      · show wrap64 f.fw = wrap64 x
        rw [k2]
        rfl
    · rw [hhit, decide_eq_false htt]
      have hsame : ∀ j, (s.go 3 0 (fun x => if x = (t : Int) then add1 (t : Int) else x)).old j = s.old j := by
        intro j
        by_cases hj : (0 : Int) = j
        · subst hj
          rw [go_old _ _ _ _ hh, h.top, if_neg (by omega)]
        · exact go_other _ _ _ _ _ hj
      refine ⟨T, L, Nat.le_refl _, ⟨h.nn, by rw [go_len]; exact h.len, by rw [hsame]; exact h.top, h.cap, h.lim, fun i hi => by rw [hsame]; exact h.ent i hi⟩, ho.same hsame, fun g hg => hg, fun _ => hsame 1, fun hd => by simp at hd, fun _ => .inr (.inr ⟨by simp, hl, by omega, rfl, rfl, by simp⟩)⟩

/-- A push that is done without its store: the deque is full. -/
theorem push_full {f : Fra} (h : CL s n t0 T L) (hw : PuW s n T L f) (hd : (pushS s f).2.2.dn = true) (hc : (pushS s f).2.2.cd ≠ 0) : (pushS s f).2.2.cd = 3 ∧ n ≤ L.length := by
  have hl := h.lim
  have hnn := h.nn
  have hcap := h.cap
  obtain ⟨h1, h2, h3, h4, hb, hw⟩ := hw
  rcases hw with hl1 | ⟨hl2, hu⟩ | ⟨hl3, hu, hr⟩ | ⟨hl4, hu, hr, he⟩
  · rw [pushS_1 hl1] at hd
    cases hd
  · have hsz : sizeI f.fu (s.old f.qt) = (L.length : Int) := by
      rw [hu, h1, h.top, size_of (by omega) (by omega)]
      omega
    by_cases hc' : f.qc ≤ sizeI f.fu (s.old f.qt)
    · rw [pushS_2f hl2 hc']
      exact ⟨rfl, by omega⟩
    · rw [pushS_2 hl2 hc'] at hd
      cases hd
  · rw [pushS_3 hl3] at hd
    cases hd
  · rw [pushS_4 hl4] at hc
    exact absurd rfl hc
/-- Bottom is not above Top: the deque is empty, or its last entry is about to be taken. -/
theorem OW.doom {o : Own} (h : OW s n T L cl o) (hb : s.old 1 ≤ T) : L = [] ∨ (L.length = 1 ∧ s.old 1 = T ∧ ∃ f, o = .pop f ∧ (f.ln = 4 ∨ f.ln = 6)) := by
  by_cases hz : L.length = 0
  · exact .inl (List.eq_nil_of_length_eq_zero hz)
  refine .inr ?_
  cases o with
  | rest =>
    have := h.1
    omega
  | push f =>
    have := h.1.2.2.2.2.1
    omega
  | pop f =>
    obtain ⟨_, _, _, _, h⟩ := h
    rcases h with ⟨_, h, _⟩ | ⟨_, _, h, _⟩ | ⟨_, _, h, _⟩ | ⟨hl, _, h, _⟩ | ⟨_, _, h, _⟩ | ⟨hl, _, _, h, _, h6, _⟩ | ⟨_, _, h, _, e, _⟩ | ⟨_, _, h, _, e, _⟩ | ⟨_, _, h, _, e, _⟩
    · omega
    · omega
    · omega
    · exact ⟨by omega, by omega, f, rfl, .inl hl⟩
    · omega
    · exact ⟨by omega, by omega, f, rfl, .inr hl⟩
    · subst e; simp at hz
    · subst e; simp at hz
    · subst e; simp at hz
end
end Go.Proofs.YtjehiekmlbeaeaaGreat
