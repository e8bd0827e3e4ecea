/-
  Plain mathematics of one deque, one owner and several thieves: what the owner's steps do to the list of entries. No function is named but those of OwM.
  Plain mathematics: entries that were pushed, taken, claimed and left, each counted once. No function is named.
-/
import Derived.Test.YtjehiekmlbeaeaaGreatMgAG
namespace Go.Proofs.YtjehiekmlbeaeaaGreat
open Go Go.RowKit
set_option linter.unusedSimpArgs false
set_option linter.unusedVariables false

section
variable {s : St} {n t0 T : Nat} {L : List Int} {cl : Option Int}
theorem CL.same {s' : St} (h : CL s n t0 T L) (hl : s'.X.length = s.X.length) (e : ∀ j, s'.old j = s.old j) : CL s' n t0 T L :=
  ⟨h.nn, by rw [hl]; exact h.len, by rw [e]; exact h.top, h.cap, h.lim, fun i hi => by rw [e]; exact h.ent i hi⟩
/-- A store into Bottom. -/
theorem CL.bottom (h : CL s n t0 T L) (k : Int) (F : Int → Int) : CL (s.go k 1 F) n t0 T L :=
  ⟨h.nn, by rw [go_len]; exact h.len, by rw [go_other _ _ _ _ _ (by omega)]; exact h.top, h.cap, h.lim, fun i hi => by rw [go_other _ _ _ _ _ (by omega)]; exact h.ent i hi⟩
theorem CL.has1 (h : CL s n t0 T L) : s.has 1 := ⟨by omega, by have := h.len; have := h.nn; omega⟩
theorem CL.has0 (h : CL s n t0 T L) : s.has 0 := ⟨by omega, by have := h.len; have := h.nn; omega⟩
theorem CL.bot1 (h : CL s n t0 T L) (k v : Int) : (s.go k 1 (fun _ => v)).old 1 = v := go_old _ _ _ _ h.has1

/-- A step of a push. -/
theorem push_step {f : Fra} (h : CL s n t0 T L) (hw : PuW s n T L f) (hlim : T + L.length + 1 < t0 + 1000000) : ∃ L', CL (pushS s f).1 n t0 T L' ∧ (∀ g, TH n t0 T L g → TH n t0 T L' g) ∧
    ((pushS s f).2.2.dn = false → PuW (pushS s f).1 n T L' (pushS s f).2.1 ∧ L' = L) ∧
    ((pushS s f).2.2.dn = true → (pushS s f).1.old 1 = ((T + L'.length : Nat) : Int) ∧ (((pushS s f).2.2.cd = 0 ∧ L' = L ++ [IntKind.u64.wrap f.fa]) ∨ ((pushS s f).2.2.cd ≠ 0 ∧ (pushS s f).2.2.cd ≠ 1 ∧ L' = L))) := by
  have hl := h.lim
  have hnn := h.nn
  have hcap := h.cap
  obtain ⟨h1, h2, h3, h4, hb, hw⟩ := hw
  rcases hw with hl1 | ⟨hl2, hu⟩ | ⟨hl3, hu, hr⟩ | ⟨hl4, hu, hr, he⟩
  · rw [pushS_1 hl1]
    refine ⟨L, h.load _ _, fun g hg => hg, fun _ => ⟨⟨(by first | exact h1 | rfl), (by first | exact h2 | rfl), (by first | exact h3 | rfl), (by first | exact h4 | rfl), by rw [go_id_old]; exact hb, .inr (.inl ⟨rfl, ?_⟩)⟩, rfl⟩, fun hd => by cases hd⟩
    show s.old f.qb = _
    rw [h2]
    exact hb
  · have hsz : sizeI f.fu (s.old f.qt) = (L.length : Int) := by
      rw [hu, h1, h.top, size_of (by omega) (by omega)]
      omega
    by_cases hc : f.qc ≤ sizeI f.fu (s.old f.qt)
    · rw [pushS_2f hl2 hc]
      exact ⟨L, h.load _ _, fun g hg => hg, fun hd => by simp at hd, fun _ => ⟨by show (s.go _ _ _).old 1 = _; rw [go_id_old]; exact hb, .inr ⟨by show (3 : Int) ≠ 0; decide, by show (3 : Int) ≠ 1; decide, rfl⟩⟩⟩
    · rw [pushS_2 hl2 hc]
      exact ⟨L, h.load _ _, fun g hg => hg, fun _ => ⟨⟨(by first | exact h1 | rfl), (by first | exact h2 | rfl), (by first | exact h3 | rfl), (by first | exact h4 | rfl), by rw [go_id_old]; exact hb, .inr (.inr (.inl ⟨rfl, (by first | exact hu | rfl), by omega⟩))⟩, rfl⟩, fun hd => by cases hd⟩
  · rw [pushS_3 hl3, h3, h4, hu, ring_of n hnn]
    have hm := Nat.mod_lt (T + L.length) (show n > 0 by omega)
    have hh : s.has ((2 + (T + L.length) % n : Nat) : Int) := ⟨by omega, by have := h.len; omega⟩
    refine ⟨L, ⟨h.nn, by rw [go_len]; exact h.len, by rw [go_other _ _ _ _ _ (by omega)]; exact h.top, h.cap, h.lim, fun i hi => ?_⟩, fun g hg => hg, fun _ => ⟨⟨(by first | exact h1 | rfl), (by first | exact h2 | rfl), (by first | exact h3 | rfl), (by first | exact h4 | rfl), by rw [go_other _ _ _ _ _ (by omega)]; exact hb, .inr (.inr (.inr ⟨rfl, (by first | exact hu | rfl), hr, ?_⟩))⟩, rfl⟩, fun hd => by cases hd⟩
    · have hne := mod_ne (n := n) (a := T + i) (b := T + L.length) (by omega) (by omega)
      rw [go_other _ _ _ _ _ (by omega)]
      exact h.ent i hi
    · exact go_old _ _ _ _ hh
  · rw [pushS_4 hl4, h2, hu]
    have hB := h.bottom 2 (fun _ => IntKind.u64.wrap (((T + L.length : Nat) : Int) + 1))
    refine ⟨L ++ [IntKind.u64.wrap f.fa], ⟨hB.nn, hB.len, hB.top, by simp; omega, ⟨hl.1, by simp; omega, hl.2.2⟩, fun i hi => ?_⟩, fun g hg => hg.keep (fun hp => ⟨by simp, ?_⟩), fun hd => by simp at hd, fun _ => ⟨?_, .inl ⟨rfl, rfl⟩⟩⟩
    · rw [List.length_append] at hi
      simp only [List.length_cons, List.length_nil, Nat.zero_add] at hi
      by_cases hil : i < L.length
      · rw [hB.ent i hil, List.getD_eq_getElem?_getD, List.getD_eq_getElem?_getD, List.getElem?_append_left hil]
      · obtain rfl : i = L.length := by omega
        show (s.go _ _ _).old _ = _
        rw [go_other _ _ _ _ _ (by omega), he, List.getD_eq_getElem?_getD, List.getElem?_append_right (Nat.le_refl _), Nat.sub_self]
        rfl
    · rw [List.getD_eq_getElem?_getD, List.getD_eq_getElem?_getD, List.getElem?_append_left hp]
    · show (s.go _ _ _).old 1 = _
      rw [h.bot1, IntWalk.u64_in _ (by omega), List.length_append]
      simp
      omega

/-- A step of a pop. -/
theorem pop_step {f : Fra} (h : CL s n t0 T L) (hw : PoW s n T L f cl) : ∃ T' L' cl', T' + L'.length ≤ T + L.length ∧ CL (popS s f).1 n t0 T' L' ∧ (∀ g, TH n t0 T L g → TH n t0 T' L' g) ∧
    ((popS s f).2.2.dn = false → PoW (popS s f).1 n T' L' (popS s f).2.1 cl' ∧ ((cl' = cl ∧ L' = L) ∨ (cl = none ∧ ∃ x, cl' = some x ∧ (L = L' ++ [x] ∨ L = x :: L')))) ∧
    ((popS s f).2.2.dn = true → (popS s f).1.old 1 = ((T' + L'.length : Nat) : Int) ∧ L' = L ∧ (((popS s f).2.2.cd = 1 ∧ ∃ x, cl = some x ∧ (popS s f).2.2.vl = IntKind.i64.wrap x) ∨ ((popS s f).2.2.cd ≠ 0 ∧ (popS s f).2.2.cd ≠ 1 ∧ cl = none ∧ L = []))) := by
  have hl := h.lim
  have hnn := h.nn
  have hcap := h.cap
  obtain ⟨h1, h2, h3, h4, hw⟩ := hw
  rcases hw with ⟨hl1, hb, hcl⟩ | ⟨hl2, hu, hb, hcl⟩ | ⟨hl3, hu, hb, hp, hcl⟩ | ⟨hl4, hu, hb, hp, hcl⟩ | ⟨hl5, hu, hb, hr, hcl⟩ | ⟨hl6, hu, hv, hb, hp, hr, hcl⟩ | ⟨hl7, hu, hb, hp, hL, hcl⟩ | ⟨hl8, hu, hb, hp, hL, hcl⟩ | ⟨hl9, hu, hb, hp, hL, hcl⟩
  · rw [popS_1 hl1]
    refine ⟨T, L, cl, Nat.le_refl _, h.load _ _, fun g hg => hg, fun _ => ⟨⟨(by first | exact h1 | rfl), (by first | exact h2 | rfl), (by first | exact h3 | rfl), (by first | exact h4 | rfl), .inr (.inl ⟨rfl, ?_, by rw [go_id_old]; exact hb, hcl⟩)⟩, .inl ⟨rfl, rfl⟩⟩, fun hd => by cases hd⟩
    show s.old f.qb = _
    rw [h2]
    exact hb
  · have hsz : sizeI f.fu (s.old f.qt) = (L.length : Int) := by
      rw [hu, h1, h.top, size_of (by omega) (by omega)]
      omega
    by_cases hc : sizeI f.fu (s.old f.qt) ≤ 0
    · rw [popS_2e hl2 hc]
      exact ⟨T, L, cl, Nat.le_refl _, h.load _ _, fun g hg => hg, fun hd => by simp at hd, fun _ => ⟨by show (s.go _ _ _).old 1 = _; rw [go_id_old]; exact hb, rfl, .inr ⟨by show (2 : Int) ≠ 0; decide, by show (2 : Int) ≠ 1; decide, hcl, List.eq_nil_of_length_eq_zero (by omega)⟩⟩⟩
    · rw [popS_2 hl2 hc]
      exact ⟨T, L, cl, Nat.le_refl _, h.load _ _, fun g hg => hg, fun _ => ⟨⟨(by first | exact h1 | rfl), (by first | exact h2 | rfl), (by first | exact h3 | rfl), (by first | exact h4 | rfl), .inr (.inr (.inl ⟨rfl, (by first | exact hu | rfl), by rw [go_id_old]; exact hb, by omega, hcl⟩))⟩, .inl ⟨rfl, rfl⟩⟩, fun hd => by cases hd⟩
  · rw [popS_3 hl3, h2, hu]
    have hs : sub1 ((T + L.length : Nat) : Int) = ((T + L.length - 1 : Nat) : Int) := by
      show IntKind.u64.wrap _ = _
      rw [IntWalk.u64_in _ (by omega)]
      omega
    refine ⟨T, L, cl, Nat.le_refl _, CL.bottom h 2 (fun _ => sub1 ((T + L.length : Nat) : Int)), fun g hg => hg, fun _ => ⟨⟨(by first | exact h1 | rfl), (by first | exact h2 | rfl), (by first | exact h3 | rfl), (by first | exact h4 | rfl), .inr (.inr (.inr (.inl ⟨rfl, (by first | exact hu | rfl), ?_, hp, hcl⟩)))⟩, .inl ⟨rfl, rfl⟩⟩, fun hd => by cases hd⟩
    show (s.go 2 1 (fun _ => sub1 ((T + L.length : Nat) : Int))).old 1 = _
    rw [h.bot1, hs]
  · rw [popS_4 hl4]
    have hs : sub1 f.fu = ((T + L.length - 1 : Nat) : Int) := by
      rw [hu]
      show IntKind.u64.wrap _ = _
      rw [IntWalk.u64_in _ (by omega)]
      omega
    have hsz : sizeI (sub1 f.fu) (s.old f.qt) = (L.length : Int) - 1 := by
      rw [hs, h1, h.top, size_int (by omega) (by omega) (by omega)]
      omega
    rw [hsz]
    rcases Nat.lt_trichotomy L.length 1 with hz | hz | hz
    · have hL : L = [] := List.eq_nil_of_length_eq_zero (by omega)
      subst hL
      have hp4 : pop4 ((([] : List Int).length : Int) - 1) = 9 := by decide
      rw [hp4]
      refine ⟨T, [], cl, Nat.le_refl _, h.load _ _, fun g hg => hg, fun _ => ⟨⟨(by first | exact h1 | rfl), (by first | exact h2 | rfl), (by first | exact h3 | rfl), (by first | exact h4 | rfl), .inr (.inr (.inr (.inr (.inr (.inr (.inr (.inr ⟨rfl, by simpa using hu, ?_, by simpa using hp, rfl, hcl⟩)))))))⟩, .inl ⟨rfl, rfl⟩⟩, fun hd => by cases hd⟩
      show (s.go _ _ _).old 1 = _
      rw [go_id_old]
      simpa using hb
    · have hp4 : pop4 ((L.length : Int) - 1) = 6 := by rw [hz]; decide
      rw [hp4]
      refine ⟨T, L, cl, Nat.le_refl _, h.load _ _, fun g hg => hg, fun _ => ⟨⟨(by first | exact h1 | rfl), (by first | exact h2 | rfl), (by first | exact h3 | rfl), (by first | exact h4 | rfl), .inr (.inr (.inr (.inr (.inr (.inl ⟨rfl, (by first | exact hu | rfl), ?_, ?_, hp, by omega, hcl⟩)))))⟩, .inl ⟨rfl, rfl⟩⟩, fun hd => by cases hd⟩
      · show s.old f.qt = _
        rw [h1, h.top]
        omega
      · show (s.go _ _ _).old 1 = _
        rw [go_id_old]
        exact hb
    · have hp4 : pop4 ((L.length : Int) - 1) = 5 := by
        unfold pop4
        rw [if_neg (by omega), if_neg (by omega)]
      rw [hp4]
      obtain ⟨L0, x, rfl⟩ : ∃ l0 x, L = l0 ++ [x] := ⟨L.dropLast, L.getLast (by intro e; rw [e] at hz; simp at hz), (List.dropLast_concat_getLast (by intro e; rw [e] at hz; simp at hz)).symm⟩
      have hlen : (L0 ++ [x]).length = L0.length + 1 := by simp
      rw [hlen] at hz hu hb hl hcap
      have hx : s.old ((2 + (T + L0.length) % n : Nat) : Int) = x := by
        rw [h.ent L0.length (by omega)]
        simp
      have hcl0 : CL s n t0 T L0 := ⟨h.nn, h.len, h.top, by omega, ⟨hl.1, by omega, hl.2.2⟩, fun i hi => by rw [h.ent i (by omega), List.getD_eq_getElem?_getD, List.getD_eq_getElem?_getD, List.getElem?_append_left hi]⟩
      refine ⟨T, L0, some x, (by omega), hcl0.load _ _, fun g hg => hg.keep (fun _ => ⟨by omega, by rw [List.getD_eq_getElem?_getD, List.getD_eq_getElem?_getD, List.getElem?_append_left (by omega)]⟩), fun _ => ⟨⟨(by first | exact h1 | rfl), (by first | exact h2 | rfl), (by first | exact h3 | rfl), (by first | exact h4 | rfl), .inr (.inr (.inr (.inr (.inl ⟨rfl, (by first | exact hu | rfl), ?_, by omega, ?_⟩))))⟩, .inr ⟨hcl, x, rfl, .inl rfl⟩⟩, fun hd => by cases hd⟩
      · show (s.go _ _ _).old 1 = _
        rw [go_id_old, hb]
        omega
      · show some x = some ((s.go _ _ _).old _)
        rw [go_id_old, hx]
  · rw [popS_58 (.inl hl5)]
    have hs : sub1 f.fu = ((T + L.length : Nat) : Int) := by
      rw [hu]
      show IntKind.u64.wrap _ = _
      rw [IntWalk.u64_in _ (by omega)]
      omega
    rw [h3, h4, hs, ring_of n hnn]
    exact ⟨T, L, cl, Nat.le_refl _, h.load _ _, fun g hg => hg, fun hd => by simp at hd, fun _ => ⟨by show (s.go _ _ _).old 1 = _; rw [go_id_old]; exact hb, rfl, .inl ⟨rfl, _, hcl, rfl⟩⟩⟩
  · rw [popS_6 hl6, h1, hv]
    have hhit : s.hit 0 ((T + L.length - 1 : Nat) : Int) = decide (L.length = 1) := by
      unfold St.hit
      rw [decide_eq_true h.has0, h.top, Bool.true_and, Bool.eq_iff_iff]
      simp
      omega
    rw [hhit]
    by_cases hz : L.length = 1
    · obtain ⟨x, rfl⟩ : ∃ x, L = [x] := List.length_eq_one_iff.1 hz
      rw [decide_eq_true hz, if_pos rfl]
      have hF : (fun y => if y = ((T + [x].length - 1 : Nat) : Int) then add1 ((T + [x].length - 1 : Nat) : Int) else y) (T : Int) = ((T + 1 : Nat) : Int) := by
        show (if (T : Int) = ((T + 1 - 1 : Nat) : Int) then add1 ((T + 1 - 1 : Nat) : Int) else (T : Int)) = _
        rw [if_pos (by omega)]
        show IntKind.u64.wrap _ = _
        rw [IntWalk.u64_in _ (by omega)]
        omega
      have hH := CL.head (k := 3) (F := fun y => if y = ((T + [x].length - 1 : Nat) : Int) then add1 ((T + [x].length - 1 : Nat) : Int) else y) h hF
      have hx := h.ent 0 (by simp)
      rw [Nat.add_zero] at hx
      refine ⟨T + 1, [], some x, (by simp), hH, fun g hg => hg.tail, fun _ => ⟨⟨(by first | exact h1 | rfl), (by first | exact h2 | rfl), (by first | exact h3 | rfl), (by first | exact h4 | rfl), .inr (.inr (.inr (.inr (.inr (.inr (.inl ⟨rfl, (by first | exact hu | rfl), ?_, by omega, rfl, ?_⟩))))))⟩, .inr ⟨hcl, x, rfl, .inl rfl⟩⟩, fun hd => by cases hd⟩
      · show (s.go _ _ _).old 1 = _
        rw [go_other _ _ _ _ _ (by omega)]
        exact hb
      · show some x = some ((s.go _ _ _).old _)
        rw [go_other _ _ _ _ _ (by omega), show T + 1 - 1 = T by omega, hx]
        rfl
    · have hL : L = [] := List.eq_nil_of_length_eq_zero (by omega)
      subst hL
      rw [decide_eq_false hz, if_neg (by decide)]
      have hp' : 1 ≤ T := by simpa using hp
      have hsame : ∀ j, (s.go 3 0 (fun y => if y = ((T + ([] : List Int).length - 1 : Nat) : Int) then add1 ((T + ([] : List Int).length - 1 : Nat) : Int) else y)).old j = s.old j := by
        intro j
        by_cases hj : (0 : Int) = j
        · subst hj
          rw [go_old _ _ _ _ h.has0, h.top, if_neg (by simp; omega)]
        · exact go_other _ _ _ _ _ hj
      refine ⟨T, [], cl, Nat.le_refl _, h.same (go_len _ _ _ _) hsame, fun g hg => hg, fun _ => ⟨⟨(by first | exact h1 | rfl), (by first | exact h2 | rfl), (by first | exact h3 | rfl), (by first | exact h4 | rfl), .inr (.inr (.inr (.inr (.inr (.inr (.inr (.inr ⟨rfl, by simpa using hu, ?_, hp', rfl, hcl⟩)))))))⟩, .inl ⟨rfl, rfl⟩⟩, fun hd => by cases hd⟩
      show St.old _ 1 = _
      rw [hsame]
      simpa using hb
  · subst hL
    rw [popS_7 hl7, h2, hu]
    refine ⟨T, [], cl, Nat.le_refl _, CL.bottom h 2 (fun _ => (T : Int)), fun g hg => hg, fun _ => ⟨⟨(by first | exact h1 | rfl), (by first | exact h2 | rfl), (by first | exact h3 | rfl), (by first | exact h4 | rfl), .inr (.inr (.inr (.inr (.inr (.inr (.inr (.inl ⟨rfl, (by first | exact hu | rfl), h.bot1 _ _, hp, rfl, ?_⟩)))))))⟩, .inl ⟨rfl, rfl⟩⟩, fun hd => by cases hd⟩
    show cl = some ((s.go _ _ _).old _)
    rw [go_other _ _ _ _ _ (by omega)]
    exact hcl
  · subst hL
    rw [popS_58 (.inr hl8)]
    have hs : sub1 f.fu = ((T - 1 : Nat) : Int) := by
      rw [hu]
      show IntKind.u64.wrap _ = _
      rw [IntWalk.u64_in _ (by omega)]
      omega
    rw [h3, h4, hs, ring_of n hnn]
    exact ⟨T, [], cl, Nat.le_refl _, h.load _ _, fun g hg => hg, fun hd => by simp at hd, fun _ => ⟨by show (s.go _ _ _).old 1 = _; rw [go_id_old]; simpa using hb, rfl, .inl ⟨rfl, _, hcl, rfl⟩⟩⟩
  · subst hL
    have hl9' : popS s f = (s.go 2 f.qb (fun _ => f.fu), f, ⟨true, 2, 0⟩) := by
      unfold popS
      rw [if_neg (by omega), if_neg (by omega), if_neg (by omega), if_neg (by omega), if_neg (by omega), if_neg (by omega), if_neg (by omega)]
    rw [hl9', h2, hu]
    exact ⟨T, [], cl, Nat.le_refl _, CL.bottom h 2 (fun _ => (T : Int)), fun g hg => hg, fun hd => by simp at hd, fun _ => ⟨by show (s.go 2 1 (fun _ => (T : Int))).old 1 = _; rw [h.bot1]; simp, rfl, .inr ⟨by show (2 : Int) ≠ 0; decide, by show (2 : Int) ≠ 1; decide, hcl, rfl⟩⟩⟩
end
end Go.Proofs.YtjehiekmlbeaeaaGreat

namespace Go.Proofs.YtjehiekmlbeaeaaGreat
open Go Go.RowKit
set_option linter.unusedSimpArgs false
set_option linter.unusedVariables false

theorem getD_set_if {α : Type} (l : List α) (i j : Nat) (v d : α) : (l.set i v).getD j d = if i = j ∧ i < l.length then v else l.getD j d := by
  rw [List.getD_eq_getElem?_getD, List.getD_eq_getElem?_getD, List.getElem?_set]
  by_cases h : i = j
  · subst h
    by_cases h2 : i < l.length
    · rw [if_pos rfl, if_pos h2, if_pos ⟨rfl, h2⟩]
      rfl
    · rw [if_pos rfl, if_neg h2, if_neg (by omega), List.getElem?_eq_none (by omega)]
  · rw [if_neg h, if_neg (by omega)]
/-- L: the entries on the deque; cl: the entry that a pop has claimed; P: what was pushed; K: how often it was taken. -/
structure Cnt (N : Nat) (L : List Int) (cl : Option Int) (P : List Bool) (K : List Int) : Prop where
  lp : P.length = N
  lk : K.length = N
  nd : L.Nodup
  inL : ∀ x, x ∈ L → 0 ≤ x ∧ x.toNat < N ∧ P.getD x.toNat false = true ∧ K.getD x.toNat 0 = 0
  inC : ∀ x, cl = some x → 0 ≤ x ∧ x.toNat < N ∧ P.getD x.toNat false = true ∧ K.getD x.toNat 0 = 0 ∧ x ∉ L
  kk : ∀ i, K.getD i 0 = 0 ∨ (K.getD i 0 = 1 ∧ P.getD i false = true)
  ex : ∀ i : Nat, P.getD i false = true → K.getD i 0 = 0 → (i : Int) ∈ L ∨ cl = some (i : Int)
theorem getD_rep {α : Type} (N i : Nat) (d : α) : (List.replicate N d).getD i d = d := by
  rw [List.getD_eq_getElem?_getD, List.getElem?_replicate]
  split <;> rfl
theorem Cnt.new (N : Nat) : Cnt N [] none (List.replicate N false) (List.replicate N 0) :=
  ⟨by simp, by simp, List.nodup_nil, fun x hx => by simp at hx, fun x hx => by simp at hx, fun i => .inl (getD_rep N i 0), fun i hi => by rw [getD_rep] at hi; cases hi⟩

section
variable {N : Nat} {L : List Int} {cl : Option Int} {P : List Bool} {K : List Int}
/-- A push is over. -/
theorem Cnt.push (h : Cnt N L cl P K) (d : Nat) (hd : d < N) (hp : P.getD d false = false) : Cnt N (L ++ [(d : Int)]) cl (P.set d true) K := by
  have hset : ∀ j, (P.set d true).getD j false = if d = j then true else P.getD j false := fun j => by
    rw [getD_set_if, h.lp]
    by_cases e : d = j
    · rw [if_pos ⟨e, hd⟩, if_pos e]
    · rw [if_neg (by omega), if_neg e]
  have hk : K.getD d 0 = 0 := by
    rcases h.kk d with e | ⟨_, e⟩
    · exact e
    · rw [hp] at e; cases e
  have hmono : ∀ j, P.getD j false = true → (P.set d true).getD j false = true := fun j hj => by
    rw [hset]
    split
    · rfl
    · exact hj
  have hnew : (d : Int) ∉ L := fun hm => by
    have := (h.inL _ hm).2.2.1
    rw [Int.toNat_natCast, hp] at this
    cases this
  refine ⟨by rw [List.length_set, h.lp], h.lk, ?_, fun x hx => ?_, fun x hx => ?_, fun i => ?_, fun i hi hk0 => ?_⟩
  · rw [List.nodup_append]
    refine ⟨h.nd, by simp, fun a ha b hb => ?_⟩
    rw [List.mem_singleton] at hb
    subst hb
    exact fun e => hnew (e ▸ ha)
  · rw [List.mem_append, List.mem_singleton] at hx
    rcases hx with hx | rfl
    · obtain ⟨a, b, c, e⟩ := h.inL x hx
      exact ⟨a, b, hmono _ c, e⟩
    · rw [Int.toNat_natCast]
      exact ⟨by omega, hd, by rw [hset, if_pos rfl], hk⟩
  · obtain ⟨a, b, c, e, g⟩ := h.inC x hx
    refine ⟨a, b, hmono _ c, e, fun hm => ?_⟩
    rw [List.mem_append, List.mem_singleton] at hm
    rcases hm with hm | rfl
    · exact g hm
    · rw [Int.toNat_natCast, hp] at c
      cases c
  · rcases h.kk i with e | ⟨e, g⟩
    · exact .inl e
    · exact .inr ⟨e, hmono _ g⟩
  · by_cases e : d = i
    · subst e
      exact .inl (by simp)
    · rw [hset, if_neg e] at hi
      rcases h.ex i hi hk0 with g | g
      · exact .inl (List.mem_append_left _ g)
      · exact .inr g
theorem getD_take {x : Int} (hl : K.length = N) (hx : 0 ≤ x ∧ x.toNat < N) (j : Nat) : (K.set x.toNat 1).getD j 0 = if x = (j : Int) then 1 else K.getD j 0 := by
  rw [getD_set_if, hl]
  by_cases e : x = (j : Int)
  · rw [if_pos (by omega), if_pos e]
  · rw [if_neg (by omega), if_neg e]
/-- A thief takes the head. -/
theorem Cnt.take {x : Int} (h : Cnt N (x :: L) cl P K) : Cnt N L cl P (K.set x.toNat 1) := by
  obtain ⟨hx0, hxN, hxP, hxK⟩ := h.inL x (List.mem_cons_self ..)
  have hset := getD_take h.lk ⟨hx0, hxN⟩
  have hnd := List.nodup_cons.1 h.nd
  refine ⟨h.lp, by rw [List.length_set, h.lk], hnd.2, fun y hy => ?_, fun y hy => ?_, fun i => ?_, fun i hi hk0 => ?_⟩
  · obtain ⟨a, b, c, e⟩ := h.inL y (List.mem_cons_of_mem _ hy)
    refine ⟨a, b, c, ?_⟩
    rw [hset, if_neg (fun g => hnd.1 ?_)]
    · exact e
    · rw [show x = y by omega]
      exact hy
  · obtain ⟨a, b, c, e, g⟩ := h.inC y hy
    refine ⟨a, b, c, ?_, fun hm => g (List.mem_cons_of_mem _ hm)⟩
    rw [hset, if_neg (fun k => g ?_)]
    · exact e
    · rw [show y = x by omega]
      exact List.mem_cons_self ..
  · rw [hset]
    by_cases e : x = (i : Int)
    · rw [if_pos e]
      refine .inr ⟨rfl, ?_⟩
      rwa [e, Int.toNat_natCast] at hxP
    · rw [if_neg e]
      exact h.kk i
  · rw [hset] at hk0
    by_cases e : x = (i : Int)
    · rw [if_pos e] at hk0
      cases hk0
    · rw [if_neg e] at hk0
      rcases h.ex i hi hk0 with g | g
      · rw [List.mem_cons] at g
        rcases g with g | g
        · exact absurd g.symm e
        · exact .inl g
      · exact .inr g
/-- A pop claims an entry, at either end. -/
theorem Cnt.claim {x : Int} {L' : List Int} (h : Cnt N L none P K) (hL : L = L' ++ [x] ∨ L = x :: L') : Cnt N L' (some x) P K := by
  have hm : ∀ y, y ∈ L ↔ y = x ∨ y ∈ L' := fun y => by
    rcases hL with rfl | rfl
    · rw [List.mem_append, List.mem_singleton]
      exact Or.comm
    · exact List.mem_cons
  have hn : L'.Nodup ∧ x ∉ L' := by
    have := h.nd
    rcases hL with rfl | rfl
    · rw [List.nodup_append] at this
      exact ⟨this.1, fun hx => this.2.2 x hx x (List.mem_singleton.2 rfl) rfl⟩
    · exact ⟨(List.nodup_cons.1 this).2, (List.nodup_cons.1 this).1⟩
  refine ⟨h.lp, h.lk, hn.1, fun y hy => h.inL y ((hm y).2 (.inr hy)), fun y hy => ?_, h.kk, fun i hi hk0 => ?_⟩
  · obtain rfl : x = y := by injection hy
    obtain ⟨a, b, c, e⟩ := h.inL x ((hm x).2 (.inl rfl))
    exact ⟨a, b, c, e, hn.2⟩
  · rcases h.ex i hi hk0 with g | g
    · rcases (hm _).1 g with e | e
      · exact .inr (by rw [e])
      · exact .inl e
    · cases g
/-- .. and returns it. -/
theorem Cnt.ret {x : Int} (h : Cnt N L (some x) P K) : Cnt N L none P (K.set x.toNat 1) := by
  obtain ⟨hx0, hxN, hxP, hxK, hxL⟩ := h.inC x rfl
  have hset := getD_take h.lk ⟨hx0, hxN⟩
  refine ⟨h.lp, by rw [List.length_set, h.lk], h.nd, fun y hy => ?_, fun y hy => (by cases hy), fun i => ?_, fun i hi hk0 => ?_⟩
  · obtain ⟨a, b, c, e⟩ := h.inL y hy
    refine ⟨a, b, c, ?_⟩
    rw [hset, if_neg (fun g => hxL ?_)]
    · exact e
    · rw [show x = y by omega]
      exact hy
  · rw [hset]
    by_cases e : x = (i : Int)
    · rw [if_pos e]
      refine .inr ⟨rfl, ?_⟩
      rwa [e, Int.toNat_natCast] at hxP
    · rw [if_neg e]
      exact h.kk i
  · rw [hset] at hk0
    by_cases e : x = (i : Int)
    · rw [if_pos e] at hk0
      cases hk0
    · rw [if_neg e] at hk0
      rcases h.ex i hi hk0 with g | g
      · exact .inl g
      · injection g with g
        exact absurd g e
/-- What is left among the first k numbers. -/
def leftC (P : List Bool) (K : List Int) : Nat → Nat
  | 0 => 0
  | k + 1 => leftC P K k + if P.getD k false = true ∧ K.getD k 0 = 0 then 1 else 0
theorem leftC_take {x : Int} (hl : K.length = N) (hx : 0 ≤ x ∧ x.toNat < N) (hP : P.getD x.toNat false = true) (hK : K.getD x.toNat 0 = 0) (k : Nat) :
    leftC P (K.set x.toNat 1) k + (if x.toNat < k then 1 else 0) = leftC P K k := by
  induction k with
  | zero => rfl
  | succ k ih =>
    show leftC P (K.set x.toNat 1) k + (if P.getD k false = true ∧ (K.set x.toNat 1).getD k 0 = 0 then 1 else 0) + (if x.toNat < k + 1 then 1 else 0) = leftC P K k + (if P.getD k false = true ∧ K.getD k 0 = 0 then 1 else 0)
    rw [getD_take hl hx, ← ih]
    by_cases e : x = (k : Int)
    · have ek : x.toNat = k := by omega
      rw [ek] at hP hK
      rw [if_pos e, if_neg (show ¬(P.getD k false = true ∧ (1 : Int) = 0) by omega), if_pos (show x.toNat < k + 1 by omega), if_neg (show ¬x.toNat < k by omega), if_pos (show P.getD k false = true ∧ K.getD k 0 = 0 from ⟨hP, hK⟩)]
    · rw [if_neg e]
      by_cases c : x.toNat < k
      · rw [if_pos c, if_pos (show x.toNat < k + 1 by omega)]
        omega
      · rw [if_neg c, if_neg (show ¬x.toNat < k + 1 by omega)]
        omega
theorem Cnt.left (h : Cnt N L none P K) : leftC P K N = L.length := by
  induction L generalizing K with
  | nil =>
    have hz : ∀ k, leftC P K k = 0 := fun k => by
      induction k with
      | zero => rfl
      | succ k ih =>
        show leftC P K k + (if P.getD k false = true ∧ K.getD k 0 = 0 then 1 else 0) = 0
        rw [ih, if_neg]
        rintro ⟨a, b⟩
        rcases h.ex k a b with g | g
        · cases g
        · cases g
    exact hz N
  | cons x L ih =>
    obtain ⟨hx0, hxN, hxP, hxK⟩ := h.inL x (List.mem_cons_self ..)
    have := leftC_take h.lk ⟨hx0, hxN⟩ hxP hxK N
    rw [if_pos hxN, ih h.take] at this
    rw [← this]
    rfl
/-- Nothing was taken that was not pushed. -/
theorem Cnt.none_else (h : Cnt N L cl P K) (i : Nat) (hk : 0 < K.getD i 0) : P.getD i false = true := by
  rcases h.kk i with e | ⟨_, e⟩
  · omega
  · exact e
end
end Go.Proofs.YtjehiekmlbeaeaaGreat
