/-
  Plain mathematics of one deque, one owner and several thieves: what the owner's steps do to the list of entries. No function is named but those of OwM.
-/
import Derived.Test.YtllllbepnnpeeaaGreatClM
namespace Go.Proofs.YtllllbepnnpeeaaGreat
open Go Go.RowKit
set_option linter.unusedSimpArgs false
set_option linter.unusedVariables false

section
variable {s : St} {n t0 T : Nat} {L : List Int} {cl : Option Int}
theorem CL.same {s' : St} (h : CL s n t0 T L) (hl : s'.X.length = s.X.length) (e : ∀ j, s'.old j = s.old j) : CL s' n t0 T L :=
  ⟨h.nn, by rw [hl]; exact h.len, by rw [e]; exact h.top, h.cap, h.lim, fun i hi => by rw [e]; exact h.ent i hi⟩
/-- A store into Bottom. -/
theorem CL.bottom (h : CL s n t0 T L) (k : Int) (F : Int → Int) : CL (s.go k 1 F) n t0 T L :=
  ⟨h.nn, by rw [go_len]; exact h.len, by rw [go_other _ _ _ _ _ (by omega)]; exact h.top, h.cap, h.lim, fun i hi => by rw [go_other _ _ _ _ _ (by omega)]; exact h.ent i hi⟩
theorem CL.has1 (h : CL s n t0 T L) : s.has 1 := ⟨by omega, by have := h.len; have := h.nn; omega⟩
theorem CL.has0 (h : CL s n t0 T L) : s.has 0 := ⟨by omega, by have := h.len; have := h.nn; omega⟩
theorem CL.bot1 (h : CL s n t0 T L) (k v : Int) : (s.go k 1 (fun _ => v)).old 1 = v := go_old _ _ _ _ h.has1

/-- A step of a push. -/
theorem push_step {f : Fra} (h : CL s n t0 T L) (hw : PuW s n T L f) (hlim : T + L.length + 1 < t0 + 1000000) : ∃ L', CL (pushS s f).1 n t0 T L' ∧ (∀ g, TH n t0 T L g → TH n t0 T L' g) ∧
    ((pushS s f).2.2.dn = false → PuW (pushS s f).1 n T L' (pushS s f).2.1 ∧ L' = L) ∧
    ((pushS s f).2.2.dn = true → (pushS s f).1.old 1 = ((T + L'.length : Nat) : Int) ∧ (((pushS s f).2.2.cd = 0 ∧ L' = L ++ [IntKind.u64.wrap f.fa]) ∨ ((pushS s f).2.2.cd ≠ 0 ∧ (pushS s f).2.2.cd ≠ 1 ∧ L' = L))) := by
  have hl := h.lim
  have hnn := h.nn
  have hcap := h.cap
  obtain ⟨h1, h2, h3, h4, hb, hw⟩ := hw
  rcases hw with hl1 | ⟨hl2, hu⟩ | ⟨hl3, hu, hr⟩ | ⟨hl4, hu, hr, he⟩
  · rw [pushS_1 hl1]
    refine ⟨L, h.load _ _, fun g hg => hg, fun _ => ⟨⟨(by first | exact h1 | rfl), (by first | exact h2 | rfl), (by first | exact h3 | rfl), (by first | exact h4 | rfl), by rw [go_id_old]; exact hb, .inr (.inl ⟨rfl, ?_⟩)⟩, rfl⟩, fun hd => by cases hd⟩
    show s.old f.qb = _
    rw [h2]
    exact hb
  · have hsz : sizeI f.fu (s.old f.qt) = (L.length : Int) := by
      rw [hu, h1, h.top, size_of (by omega) (by omega)]
      omega
    by_cases hc : f.qc ≤ sizeI f.fu (s.old f.qt)
    · rw [pushS_2f hl2 hc]
      exact ⟨L, h.load _ _, fun g hg => hg, fun hd => by simp at hd, fun _ => ⟨by show (s.go _ _ _).old 1 = _; rw [go_id_old]; exact hb, .inr ⟨by show (3 : Int) ≠ 0; decide, by show (3 : Int) ≠ 1; decide, rfl⟩⟩⟩
    · rw [pushS_2 hl2 hc]
      exact ⟨L, h.load _ _, fun g hg => hg, fun _ => ⟨⟨(by first | exact h1 | rfl), (by first | exact h2 | rfl), (by first | exact h3 | rfl), (by first | exact h4 | rfl), by rw [go_id_old]; exact hb, .inr (.inr (.inl ⟨rfl, (by first | exact hu | rfl), by omega⟩))⟩, rfl⟩, fun hd => by cases hd⟩
  · rw [pushS_3 hl3, h3, h4, hu, ring_of n hnn]
    have hm := Nat.mod_lt (T + L.length) (show n > 0 by omega)
    have hh : s.has ((2 + (T + L.length) % n : Nat) : Int) := ⟨by omega, by have := h.len; omega⟩
    refine ⟨L, ⟨h.nn, by rw [go_len]; exact h.len, by rw [go_other _ _ _ _ _ (by omega)]; exact h.top, h.cap, h.lim, fun i hi => ?_⟩, fun g hg => hg, fun _ => ⟨⟨(by first | exact h1 | rfl), (by first | exact h2 | rfl), (by first | exact h3 | rfl), (by first | exact h4 | rfl), by rw [go_other _ _ _ _ _ (by omega)]; exact hb, .inr (.inr (.inr ⟨rfl, (by first | exact hu | rfl), hr, ?_⟩))⟩, rfl⟩, fun hd => by cases hd⟩
    · have hne := mod_ne (n := n) (a := T + i) (b := T + L.length) (by omega) (by omega)
      rw [go_other _ _ _ _ _ (by omega)]
      exact h.ent i hi
    · exact go_old _ _ _ _ hh
  · rw [pushS_4 hl4, h2, hu]
    have hB := h.bottom 2 (fun _ => IntKind.u64.wrap (((T + L.length : Nat) : Int) + 1))
    refine ⟨L ++ [IntKind.u64.wrap f.fa], ⟨hB.nn, hB.len, hB.top, by simp; omega, ⟨hl.1, by simp; omega, hl.2.2⟩, fun i hi => ?_⟩, fun g hg => hg.keep (fun hp => ⟨by simp, ?_⟩), fun hd => by simp at hd, fun _ => ⟨?_, .inl ⟨rfl, rfl⟩⟩⟩
    · rw [List.length_append] at hi
      simp only [List.length_cons, List.length_nil, Nat.zero_add] at hi
      by_cases hil : i < L.length
      · rw [hB.ent i hil, List.getD_eq_getElem?_getD, List.getD_eq_getElem?_getD, List.getElem?_append_left hil]
      · obtain rfl : i = L.length := by omega
        show (s.go _ _ _).old _ = _
        rw [go_other _ _ _ _ _ (by omega), he, List.getD_eq_getElem?_getD, List.getElem?_append_right (Nat.le_refl _), Nat.sub_self]
        rfl
    · rw [List.getD_eq_getElem?_getD, List.getD_eq_getElem?_getD, List.getElem?_append_left hp]
    · show (s.go _ _ _).old 1 = _
      rw [h.bot1, IntWalk.u64_in _ (by omega), List.length_append]
      simp
      omega

/-- A step of a pop. -/
theorem pop_step {f : Fra} (h : CL s n t0 T L) (hw : PoW s n T L f cl) : ∃ T' L' cl', T' + L'.length ≤ T + L.length ∧ CL (popS s f).1 n t0 T' L' ∧ (∀ g, TH n t0 T L g → TH n t0 T' L' g) ∧
    ((popS s f).2.2.dn = false → PoW (popS s f).1 n T' L' (popS s f).2.1 cl' ∧ ((cl' = cl ∧ L' = L) ∨ (cl = none ∧ ∃ x, cl' = some x ∧ (L = L' ++ [x] ∨ L = x :: L')))) ∧
    ((popS s f).2.2.dn = true → (popS s f).1.old 1 = ((T' + L'.length : Nat) : Int) ∧ L' = L ∧ (((popS s f).2.2.cd = 1 ∧ ∃ x, cl = some x ∧ (popS s f).2.2.vl = IntKind.i64.wrap x) ∨ ((popS s f).2.2.cd ≠ 0 ∧ (popS s f).2.2.cd ≠ 1 ∧ cl = none ∧ L = []))) := by
  have hl := h.lim
  have hnn := h.nn
  have hcap := h.cap
  obtain ⟨h1, h2, h3, h4, hw⟩ := hw
  rcases hw with ⟨hl1, hb, hcl⟩ | ⟨hl2, hu, hb, hcl⟩ | ⟨hl3, hu, hb, hp, hcl⟩ | ⟨hl4, hu, hb, hp, hcl⟩ | ⟨hl5, hu, hb, hr, hcl⟩ | ⟨hl6, hu, hv, hb, hp, hr, hcl⟩ | ⟨hl7, hu, hb, hp, hL, hcl⟩ | ⟨hl8, hu, hb, hp, hL, hcl⟩ | ⟨hl9, hu, hb, hp, hL, hcl⟩
  · rw [popS_1 hl1]
    refine ⟨T, L, cl, Nat.le_refl _, h.load _ _, fun g hg => hg, fun _ => ⟨⟨(by first | exact h1 | rfl), (by first | exact h2 | rfl), (by first | exact h3 | rfl), (by first | exact h4 | rfl), .inr (.inl ⟨rfl, ?_, by rw [go_id_old]; exact hb, hcl⟩)⟩, .inl ⟨rfl, rfl⟩⟩, fun hd => by cases hd⟩
    show s.old f.qb = _
    rw [h2]
    exact hb
  · have hsz : sizeI f.fu (s.old f.qt) = (L.length : Int) := by
      rw [hu, h1, h.top, size_of (by omega) (by omega)]
      omega
    by_cases hc : sizeI f.fu (s.old f.qt) ≤ 0
    · rw [popS_2e hl2 hc]
      exact ⟨T, L, cl, Nat.le_refl _, h.load _ _, fun g hg => hg, fun hd => by simp at hd, fun _ => ⟨by show (s.go _ _ _).old 1 = _; rw [go_id_old]; exact hb, rfl, .inr ⟨by show (2 : Int) ≠ 0; decide, by show (2 : Int) ≠ 1; decide, hcl, List.eq_nil_of_length_eq_zero (by omega)⟩⟩⟩
    · rw [popS_2 hl2 hc]
      exact ⟨T, L, cl, Nat.le_refl _, h.load _ _, fun g hg => hg, fun _ => ⟨⟨(by first | exact h1 | rfl), (by first | exact h2 | rfl), (by first | exact h3 | rfl), (by first | exact h4 | rfl), .inr (.inr (.inl ⟨rfl, (by first | exact hu | rfl), by rw [go_id_old]; exact hb, by omega, hcl⟩))⟩, .inl ⟨rfl, rfl⟩⟩, fun hd => by cases hd⟩
  · rw [popS_3 hl3, h2, hu]
    have hs : sub1 ((T + L.length : Nat) : Int) = ((T + L.length - 1 : Nat) : Int) := by
      show IntKind.u64.wrap _ = _
      rw [IntWalk.u64_in _ (by omega)]
      omega
    refine ⟨T, L, cl, Nat.le_refl _, CL.bottom h 2 (fun _ => sub1 ((T + L.length : Nat) : Int)), fun g hg => hg, fun _ => ⟨⟨(by first | exact h1 | rfl), (by first | exact h2 | rfl), (by first | exact h3 | rfl), (by first | exact h4 | rfl), .inr (.inr (.inr (.inl ⟨rfl, (by first | exact hu | rfl), ?_, hp, hcl⟩)))⟩, .inl ⟨rfl, rfl⟩⟩, fun hd => by cases hd⟩
    show (s.go 2 1 (fun _ => sub1 ((T + L.length : Nat) : Int))).old 1 = _
    rw [h.bot1, hs]
  · rw [popS_4 hl4]
    have hs : sub1 f.fu = ((T + L.length - 1 : Nat) : Int) := by
      rw [hu]
      show IntKind.u64.wrap _ = _
      rw [IntWalk.u64_in _ (by omega)]
      omega
    have hsz : sizeI (sub1 f.fu) (s.old f.qt) = (L.length : Int) - 1 := by
      rw [hs, h1, h.top, size_int (by omega) (by omega) (by omega)]
      omega
    rw [hsz]
    rcases Nat.lt_trichotomy L.length 1 with hz | hz | hz
    · have hL : L = [] := List.eq_nil_of_length_eq_zero (by omega)
      subst hL
      have hp4 : pop4 ((([] : List Int).length : Int) - 1) = 9 := by decide
      rw [hp4]
      refine ⟨T, [], cl, Nat.le_refl _, h.load _ _, fun g hg => hg, fun _ => ⟨⟨(by first | exact h1 | rfl), (by first | exact h2 | rfl), (by first | exact h3 | rfl), (by first | exact h4 | rfl), .inr (.inr (.inr (.inr (.inr (.inr (.inr (.inr ⟨rfl, by simpa using hu, ?_, by simpa using hp, rfl, hcl⟩)))))))⟩, .inl ⟨rfl, rfl⟩⟩, fun hd => by cases hd⟩
      show (s.go _ _ _).old 1 = _
      rw [go_id_old]
      simpa using hb
    · have hp4 : pop4 ((L.length : Int) - 1) = 6 := by rw [hz]; decide
      rw [hp4]
      refine ⟨T, L, cl, Nat.le_refl _, h.load _ _, fun g hg => hg, fun _ => ⟨⟨(by first | exact h1 | rfl), (by first | exact h2 | rfl), (by first | exact h3 | rfl), (by first | exact h4 | rfl), .inr (.inr (.inr (.inr (.inr (.inl ⟨rfl, (by first | exact hu | rfl), ?_, ?_, hp, by omega, hcl⟩)))))⟩, .inl ⟨rfl, rfl⟩⟩, fun hd => by cases hd⟩
      · show s.old f.qt = _
        rw [h1, h.top]
        omega
      · show (s.go _ _ _).old 1 = _
        rw [go_id_old]
        exact hb
    · have hp4 : pop4 ((L.length : Int) - 1) = 5 := by
        unfold pop4
        rw [if_neg (by omega), if_neg (by omega)]
      rw [hp4]
      obtain ⟨L0, x, rfl⟩ : ∃ l0 x, L = l0 ++ [x] := ⟨L.dropLast, L.getLast (by intro e; rw [e] at hz; simp at hz), (List.dropLast_concat_getLast (by intro e; rw [e] at hz; simp at hz)).symm⟩
      have hlen : (L0 ++ [x]).length = L0.length + 1 := by simp
      rw [hlen] at hz hu hb hl hcap
      have hx : s.old ((2 + (T + L0.length) % n : Nat) : Int) = x := by
        rw [h.ent L0.length (by omega)]
        simp
      have hcl0 : CL s n t0 T L0 := ⟨h.nn, h.len, h.top, by omega, ⟨hl.1, by omega, hl.2.2⟩, fun i hi => by rw [h.ent i (by omega), List.getD_eq_getElem?_getD, List.getD_eq_getElem?_getD, List.getElem?_append_left hi]⟩
      refine ⟨T, L0, some x, (by omega), hcl0.load _ _, fun g hg => hg.keep (fun _ => ⟨by omega, by rw [List.getD_eq_getElem?_getD, List.getD_eq_getElem?_getD, List.getElem?_append_left (by omega)]⟩), fun _ => ⟨⟨(by first | exact h1 | rfl), (by first | exact h2 | rfl), (by first | exact h3 | rfl), (by first | exact h4 | rfl), .inr (.inr (.inr (.inr (.inl ⟨rfl, (by first | exact hu | rfl), ?_, by omega, ?_⟩))))⟩, .inr ⟨hcl, x, rfl, .inl rfl⟩⟩, fun hd => by cases hd⟩
      · show (s.go _ _ _).old 1 = _
        rw [go_id_old, hb]
        omega
      · show some x = some ((s.go _ _ _).old _)
        rw [go_id_old, hx]
  · rw [popS_58 (.inl hl5)]
    have hs : sub1 f.fu = ((T + L.length : Nat) : Int) := by
      rw [hu]
      show IntKind.u64.wrap _ = _
      rw [IntWalk.u64_in _ (by omega)]
      omega
    rw [h3, h4, hs, ring_of n hnn]
    exact ⟨T, L, cl, Nat.le_refl _, h.load _ _, fun g hg => hg, fun hd => by simp at hd, fun _ => ⟨by show (s.go _ _ _).old 1 = _; rw [go_id_old]; exact hb, rfl, .inl ⟨rfl, _, hcl, rfl⟩⟩⟩
  · rw [popS_6 hl6, h1, hv]
    have hhit : s.hit 0 ((T + L.length - 1 : Nat) : Int) = decide (L.length = 1) := by
      unfold St.hit
      rw [decide_eq_true h.has0, h.top, Bool.true_and, Bool.eq_iff_iff]
      simp
      omega
    rw [hhit]
    by_cases hz : L.length = 1
    · obtain ⟨x, rfl⟩ : ∃ x, L = [x] := List.length_eq_one_iff.1 hz
      rw [decide_eq_true hz, if_pos rfl]
      have hF : (fun y => if y = ((T + [x].length - 1 : Nat) : Int) then add1 ((T + [x].length - 1 : Nat) : Int) else y) (T : Int) = ((T + 1 : Nat) : Int) := by
        show (if (T : Int) = ((T + 1 - 1 : Nat) : Int) then add1 ((T + 1 - 1 : Nat) : Int) else (T : Int)) = _
        rw [if_pos (by omega)]
        show IntKind.u64.wrap _ = _
        rw [IntWalk.u64_in _ (by omega)]
        omega
      have hH := CL.head (k := 3) (F := fun y => if y = ((T + [x].length - 1 : Nat) : Int) then add1 ((T + [x].length - 1 : Nat) : Int) else y) h hF
      have hx := h.ent 0 (by simp)
      rw [Nat.add_zero] at hx
      refine ⟨T + 1, [], some x, (by simp), hH, fun g hg => hg.tail, fun _ => ⟨⟨(by first | exact h1 | rfl), (by first | exact h2 | rfl), (by first | exact h3 | rfl), (by first | exact h4 | rfl), .inr (.inr (.inr (.inr (.inr (.inr (.inl ⟨rfl, (by first | exact hu | rfl), ?_, by omega, rfl, ?_⟩))))))⟩, .inr ⟨hcl, x, rfl, .inl rfl⟩⟩, fun hd => by cases hd⟩
      · show (s.go _ _ _).old 1 = _
        rw [go_other _ _ _ _ _ (by omega)]
        exact hb
      · show some x = some ((s.go _ _ _).old _)
        rw [go_other _ _ _ _ _ (by omega), show T + 1 - 1 = T by omega, hx]
        rfl
    · have hL : L = [] := List.eq_nil_of_length_eq_zero (by omega)
      subst hL
      rw [decide_eq_false hz, if_neg (by decide)]
      have hp' : 1 ≤ T := by simpa using hp
      have hsame : ∀ j, (s.go 3 0 (fun y => if y = ((T + ([] : List Int).length - 1 : Nat) : Int) then add1 ((T + ([] : List Int).length - 1 : Nat) : Int) else y)).old j = s.old j := by
        intro j
        by_cases hj : (0 : Int) = j
        · subst hj
          rw [go_old _ _ _ _ h.has0, h.top, if_neg (by simp; omega)]
        · exact go_other _ _ _ _ _ hj
      refine ⟨T, [], cl, Nat.le_refl _, h.same (go_len _ _ _ _) hsame, fun g hg => hg, fun _ => ⟨⟨(by first | exact h1 | rfl), (by first | exact h2 | rfl), (by first | exact h3 | rfl), (by first | exact h4 | rfl), .inr (.inr (.inr (.inr (.inr (.inr (.inr (.inr ⟨rfl, by simpa using hu, ?_, hp', rfl, hcl⟩)))))))⟩, .inl ⟨rfl, rfl⟩⟩, fun hd => by cases hd⟩
      show St.old _ 1 = _
      rw [hsame]
      simpa using hb
  · subst hL
    rw [popS_7 hl7, h2, hu]
    refine ⟨T, [], cl, Nat.le_refl _, CL.bottom h 2 (fun _ => (T : Int)), fun g hg => hg, fun _ => ⟨⟨(by first | exact h1 | rfl), (by first | exact h2 | rfl), (by first | exact h3 | rfl), (by first | exact h4 | rfl), .inr (.inr (.inr (.inr (.inr (.inr (.inr (.inl ⟨rfl, (by first | exact hu | rfl), h.bot1 _ _, hp, rfl, ?_⟩)))))))⟩, .inl ⟨rfl, rfl⟩⟩, fun hd => by cases hd⟩
    show cl = some ((s.go _ _ _).old _)
    rw [go_other _ _ _ _ _ (by omega)]
    exact hcl
  · subst hL
    rw [popS_58 (.inr hl8)]
    have hs : sub1 f.fu = ((T - 1 : Nat) : Int) := by
      rw [hu]
      show IntKind.u64.wrap _ = _
      rw [IntWalk.u64_in _ (by omega)]
      omega
    rw [h3, h4, hs, ring_of n hnn]
    exact ⟨T, [], cl, Nat.le_refl _, h.load _ _, fun g hg => hg, fun hd => by simp at hd, fun _ => ⟨by show (s.go _ _ _).old 1 = _; rw [go_id_old]; simpa using hb, rfl, .inl ⟨rfl, _, hcl, rfl⟩⟩⟩
  · subst hL
    have hl9' : popS s f = (s.go 2 f.qb (fun _ => f.fu), f, ⟨true, 2, 0⟩) := by
      unfold popS
      rw [if_neg (by omega), if_neg (by omega), if_neg (by omega), if_neg (by omega), if_neg (by omega), if_neg (by omega), if_neg (by omega)]
    rw [hl9', h2, hu]
    exact ⟨T, [], cl, Nat.le_refl _, CL.bottom h 2 (fun _ => (T : Int)), fun g hg => hg, fun hd => by simp at hd, fun _ => ⟨by show (s.go 2 1 (fun _ => (T : Int))).old 1 = _; rw [h.bot1]; simp, rfl, .inr ⟨by show (2 : Int) ≠ 0; decide, by show (2 : Int) ≠ 1; decide, hcl, rfl⟩⟩⟩
end
end Go.Proofs.YtllllbepnnpeeaaGreat
