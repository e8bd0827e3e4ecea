/-
  Plain mathematics of one deque at any place of a memory: what push and pop alone do. No function is named. (Made out of OwM by words: the place is A.)
-/
import Derived.Test.YtgipddeldddbnaaGreatOwM
namespace Go.Proofs.YtgipddeldddbnaaGreat
open Go Go.RowKit
set_option linter.unusedSimpArgs false

theorem ringA_of (A n : Nat) (hA : A ≤ 100000) (hn : 1 ≤ n ∧ n ≤ 100) (i : Nat) : ringI ((A + 2 : Nat) : Int) n (i : Int) = ((A + 2 + i % n : Nat) : Int) := by
  unfold ringI
  rw [if_neg (by omega)]
  have h2 := Nat.mod_lt i (show n > 0 by omega)
  rw [← Int.natCast_emod]
  unfold wrap64
  omega

/-- The state s holds, from cell A on, a deque with room for n entries, whose indices begin with t and whose entries are the words l. -/
structure DA (s : St) (A n t : Nat) (l : List Int) : Prop where
  hA : A ≤ 100000
  len : A + n + 2 ≤ s.X.length
  top : s.old (A : Int) = t
  bot : s.old ((A + 1 : Nat) : Int) = ((t + l.length : Nat) : Int)
  cap : l.length ≤ n
  ent : ∀ i, i < l.length → s.old ((A + 2 + (t + i) % n : Nat) : Int) = l.getD i 0
  nn : 1 ≤ n ∧ n ≤ 100

section
variable {s : St} {A n t : Nat} {l : List Int}
theorem DA.load (h : DA s A n t l) (k i : Int) : DA (s.go k i id) A n t l :=
  ⟨h.hA, by rw [go_len]; exact h.len, by rw [go_id_old]; exact h.top, by rw [go_id_old]; exact h.bot, h.cap, fun j hj => by rw [go_id_old]; exact h.ent j hj, h.nn⟩
theorem DA.hasN (h : DA s A n t l) {j : Nat} (hj : j < n + 2) : s.has ((A + j : Nat) : Int) := ⟨by omega, by have := h.len; omega⟩
theorem DA.has1 (h : DA s A n t l) : s.has ((A + 1 : Nat) : Int) := h.hasN (j := 1) (by have := h.nn; omega)
theorem DA.full (h : DA s A n t l) (hl : l.length = n) (v : Int) : ∃ s', runS pushS 20 s (fra1 0 (A : Int) ((A + 1 : Nat) : Int) ((A + 2 : Nat) : Int) n v) = some (s', ⟨true, 3, 0⟩, 2) ∧ DA s' A n t l := by
  have hn := h.nn
  have e1 : pushS s (fra1 0 (A : Int) ((A + 1 : Nat) : Int) ((A + 2 : Nat) : Int) n v) = _ := pushS_1 rfl
  have h1 := h.load 1 ((A + 1 : Nat) : Int)
  have hsz : sizeI (s.old ((A + 1 : Nat) : Int)) ((s.go 1 ((A + 1 : Nat) : Int) id).old (A : Int)) = (n : Int) := by
    rw [h.bot, h1.top, size_of (by omega) (by omega)]
    omega
  have e2 := pushS_2f (s := s.go 1 ((A + 1 : Nat) : Int) id) (f := { fra1 0 (A : Int) ((A + 1 : Nat) : Int) ((A + 2 : Nat) : Int) n v with fu := s.old ((A + 1 : Nat) : Int), ln := 2 }) rfl (by show (n : Int) ≤ sizeI (s.old ((A + 1 : Nat) : Int)) ((s.go 1 ((A + 1 : Nat) : Int) id).old (A : Int)); omega)
  exact ⟨_, runS_cons e1 (runS_last e2 rfl), h1.load 1 (A : Int)⟩
theorem DA.push (h : DA s A n t l) (hl : l.length < n) (hb : t + l.length < 18446744073709551000) (v : Int) : ∃ s', runS pushS 20 s (fra1 0 (A : Int) ((A + 1 : Nat) : Int) ((A + 2 : Nat) : Int) n v) = some (s', ⟨true, 0, 0⟩, 4) ∧ DA s' A n t (l ++ [IntKind.u64.wrap v]) := by
  have hn := h.nn
  have hm := Nat.mod_lt (t + l.length) (show n > 0 by omega)
  have e1 : pushS s (fra1 0 (A : Int) ((A + 1 : Nat) : Int) ((A + 2 : Nat) : Int) n v) = _ := pushS_1 rfl
  have h1 := h.load 1 ((A + 1 : Nat) : Int)
  have hsz : sizeI (s.old ((A + 1 : Nat) : Int)) ((s.go 1 ((A + 1 : Nat) : Int) id).old (A : Int)) = (l.length : Int) := by
    rw [h.bot, h1.top, size_of (by omega) (by omega)]
    omega
  have h2 := h1.load 1 (A : Int)
  obtain ⟨s2, hs2⟩ : ∃ s2, (s.go 1 ((A + 1 : Nat) : Int) id).go 1 (A : Int) id = s2 := ⟨_, rfl⟩
  have e2 : pushS (s.go 1 ((A + 1 : Nat) : Int) id) { fra1 0 (A : Int) ((A + 1 : Nat) : Int) ((A + 2 : Nat) : Int) n v with fu := s.old ((A + 1 : Nat) : Int), ln := 2 } = (s2, { fra1 0 (A : Int) ((A + 1 : Nat) : Int) ((A + 2 : Nat) : Int) n v with fu := s.old ((A + 1 : Nat) : Int), fv := (s.go 1 ((A + 1 : Nat) : Int) id).old (A : Int), ln := 3 }, .none) := by
    rw [← hs2]
    exact pushS_2 rfl (by show ¬ (n : Int) ≤ sizeI (s.old ((A + 1 : Nat) : Int)) ((s.go 1 ((A + 1 : Nat) : Int) id).old (A : Int)); omega)
  rw [hs2] at h2
  have e3 := pushS_3 (s := s2) (f := { fra1 0 (A : Int) ((A + 1 : Nat) : Int) ((A + 2 : Nat) : Int) n v with fu := s.old ((A + 1 : Nat) : Int), fv := (s.go 1 ((A + 1 : Nat) : Int) id).old (A : Int), ln := 3 }) rfl
  have e4 := pushS_4 (s := s2.go 2 (ringI ((A + 2 : Nat) : Int) n (s.old ((A + 1 : Nat) : Int))) (fun _ => IntKind.u64.wrap v)) (f := { fra1 0 (A : Int) ((A + 1 : Nat) : Int) ((A + 2 : Nat) : Int) n v with fu := s.old ((A + 1 : Nat) : Int), fv := (s.go 1 ((A + 1 : Nat) : Int) id).old (A : Int), ln := 4 }) rfl
  refine ⟨(s2.go 2 (ringI ((A + 2 : Nat) : Int) n (s.old ((A + 1 : Nat) : Int))) (fun _ => IntKind.u64.wrap v)).go 2 ((A + 1 : Nat) : Int) (fun _ => IntKind.u64.wrap (s.old ((A + 1 : Nat) : Int) + 1)), runS_cons e1 (runS_cons e2 (runS_cons e3 (runS_last e4 rfl))), ?_⟩
  · rw [h.bot, ringA_of A n h.hA hn]
    have hr := h2.hasN (j := 2 + (t + l.length) % n) (by omega)
    rw [← Nat.add_assoc] at hr
    refine ⟨h.hA, by rw [go_len, go_len]; exact h2.len, ?_, ?_, by rw [List.length_append]; simp; omega, fun i hi => ?_, hn⟩
    · rw [go_other _ _ _ _ _ (by omega), go_other _ _ _ _ _ (by omega)]
      exact h2.top
    · rw [go_old _ _ _ _ ((go_has _ _ _ _ _).2 h2.has1), List.length_append]
      show IntKind.u64.wrap _ = _
      rw [IntWalk.u64_in _ (by omega)]
      simp
      omega
    · rw [go_other _ _ _ _ _ (by omega)]
      rw [List.length_append] at hi
      simp only [List.length_cons, List.length_nil, Nat.zero_add] at hi
      by_cases hil : i < l.length
      · have hne := mod_ne (n := n) (a := t + i) (b := t + l.length) (by omega) (by omega)
        rw [go_other _ _ _ _ _ (by omega), h2.ent i hil, List.getD_eq_getElem?_getD, List.getD_eq_getElem?_getD, List.getElem?_append_left hil]
      · obtain rfl : i = l.length := by omega
        rw [go_old _ _ _ _ hr, List.getD_eq_getElem?_getD, List.getElem?_append_right (Nat.le_refl _), Nat.sub_self]
        rfl
theorem DA.none (h : DA s A n t []) : ∃ s', runS popS 20 s (fra1 1 (A : Int) ((A + 1 : Nat) : Int) ((A + 2 : Nat) : Int) n 0) = some (s', ⟨true, 2, 0⟩, 2) ∧ DA s' A n t [] := by
  have e1 : popS s (fra1 1 (A : Int) ((A + 1 : Nat) : Int) ((A + 2 : Nat) : Int) n 0) = _ := popS_1 rfl
  have h1 := h.load 1 ((A + 1 : Nat) : Int)
  have hsz : sizeI (s.old ((A + 1 : Nat) : Int)) ((s.go 1 ((A + 1 : Nat) : Int) id).old (A : Int)) = 0 := by
    rw [h.bot, h1.top, size_of (by simp) (by simp)]
    simp
  have e2 := popS_2e (s := s.go 1 ((A + 1 : Nat) : Int) id) (f := { fra1 1 (A : Int) ((A + 1 : Nat) : Int) ((A + 2 : Nat) : Int) n 0 with fu := s.old ((A + 1 : Nat) : Int), ln := 2 }) rfl (by show sizeI (s.old ((A + 1 : Nat) : Int)) ((s.go 1 ((A + 1 : Nat) : Int) id).old (A : Int)) ≤ 0; omega)
  exact ⟨_, runS_cons e1 (runS_last e2 rfl), h1.load 1 (A : Int)⟩
/-- The first four lines of a pop that finds entries. -/
theorem DA.pop4 (h : DA s A n t l) (hl : 0 < l.length) (hb : t + l.length < 18446744073709551000) : ∃ s4 : St, (∀ x, runS popS 16 s4 { fra1 1 (A : Int) ((A + 1 : Nat) : Int) ((A + 2 : Nat) : Int) n 0 with fu := ((t + l.length : Nat) : Int), fv := (t : Int), ln := Go.Proofs.YtgipddeldddbnaaGreat.pop4 ((l.length - 1 : Nat) : Int) } = some x → runS popS 20 s (fra1 1 (A : Int) ((A + 1 : Nat) : Int) ((A + 2 : Nat) : Int) n 0) = some (x.1, x.2.1, x.2.2 + 4)) ∧
    s4.X.length = s.X.length ∧ s4.old ((A + 1 : Nat) : Int) = ((t + l.length - 1 : Nat) : Int) ∧ ∀ j, j ≠ ((A + 1 : Nat) : Int) → s4.old j = s.old j := by
  have hn := h.nn
  have hc := h.cap
  have e1 : popS s (fra1 1 (A : Int) ((A + 1 : Nat) : Int) ((A + 2 : Nat) : Int) n 0) = _ := popS_1 rfl
  have h1 := h.load 1 ((A + 1 : Nat) : Int)
  have hsz : sizeI (s.old ((A + 1 : Nat) : Int)) ((s.go 1 ((A + 1 : Nat) : Int) id).old (A : Int)) = (l.length : Int) := by
    rw [h.bot, h1.top, size_of (by omega) (by omega)]
    omega
  have h2 := h1.load 1 (A : Int)
  have o2 : ∀ j, ((s.go 1 ((A + 1 : Nat) : Int) id).go 1 (A : Int) id).old j = s.old j := fun j => by rw [go_id_old, go_id_old]
  have l2 : ((s.go 1 ((A + 1 : Nat) : Int) id).go 1 (A : Int) id).X.length = s.X.length := by rw [go_len, go_len]
  have t1 := h1.top
  obtain ⟨s2, hs2⟩ : ∃ s2, (s.go 1 ((A + 1 : Nat) : Int) id).go 1 (A : Int) id = s2 := ⟨_, rfl⟩
  have e2 : popS (s.go 1 ((A + 1 : Nat) : Int) id) { fra1 1 (A : Int) ((A + 1 : Nat) : Int) ((A + 2 : Nat) : Int) n 0 with fu := s.old ((A + 1 : Nat) : Int), ln := 2 } = (s2, { fra1 1 (A : Int) ((A + 1 : Nat) : Int) ((A + 2 : Nat) : Int) n 0 with fu := s.old ((A + 1 : Nat) : Int), fv := (s.go 1 ((A + 1 : Nat) : Int) id).old (A : Int), ln := 3 }, .none) := by
    rw [← hs2]
    exact popS_2 rfl (by show ¬ sizeI (s.old ((A + 1 : Nat) : Int)) ((s.go 1 ((A + 1 : Nat) : Int) id).old (A : Int)) ≤ 0; omega)
  rw [hs2] at h2 o2 l2
  have e3 := popS_3 (s := s2) (f := { fra1 1 (A : Int) ((A + 1 : Nat) : Int) ((A + 2 : Nat) : Int) n 0 with fu := s.old ((A + 1 : Nat) : Int), fv := (s.go 1 ((A + 1 : Nat) : Int) id).old (A : Int), ln := 3 }) rfl
  have hsub : sub1 (s.old ((A + 1 : Nat) : Int)) = ((t + l.length - 1 : Nat) : Int) := by
    rw [h.bot]
    show IntKind.u64.wrap _ = _
    rw [IntWalk.u64_in _ (by omega)]
    omega
  have o3 : ∀ j, j ≠ ((A + 1 : Nat) : Int) → (s2.go 2 ((A + 1 : Nat) : Int) (fun _ => sub1 (s.old ((A + 1 : Nat) : Int)))).old j = s.old j := fun j hj => by rw [go_other _ _ _ _ _ (fun e => hj e.symm), o2]
  have o31 : (s2.go 2 ((A + 1 : Nat) : Int) (fun _ => sub1 (s.old ((A + 1 : Nat) : Int)))).old ((A + 1 : Nat) : Int) = ((t + l.length - 1 : Nat) : Int) := by rw [go_old _ _ _ _ h2.has1, hsub]
  have l3 : (s2.go 2 ((A + 1 : Nat) : Int) (fun _ => sub1 (s.old ((A + 1 : Nat) : Int)))).X.length = s.X.length := by rw [go_len, l2]
  have e4 := popS_4 (s := s2.go 2 ((A + 1 : Nat) : Int) (fun _ => sub1 (s.old ((A + 1 : Nat) : Int)))) (f := { fra1 1 (A : Int) ((A + 1 : Nat) : Int) ((A + 2 : Nat) : Int) n 0 with fu := s.old ((A + 1 : Nat) : Int), fv := (s.go 1 ((A + 1 : Nat) : Int) id).old (A : Int), ln := 4 }) rfl
  have t3 : (s2.go 2 ((A + 1 : Nat) : Int) (fun _ => sub1 (s.old ((A + 1 : Nat) : Int)))).old (A : Int) = (t : Int) := by rw [o3 (A : Int) (by omega), h.top]
  refine ⟨(s2.go 2 ((A + 1 : Nat) : Int) (fun _ => sub1 (s.old ((A + 1 : Nat) : Int)))).go 1 (A : Int) id, fun x hx => ?_, by rw [go_len, l3], by rw [go_id_old, o31], fun j hj => by rw [go_id_old, o3 j hj]⟩
  have hz : sizeI (sub1 (s.old ((A + 1 : Nat) : Int))) (t : Int) = ((l.length - 1 : Nat) : Int) := by
    rw [hsub, size_of (by omega) (by omega)]
    omega
  have hx' : runS popS 16 ((s2.go 2 ((A + 1 : Nat) : Int) (fun _ => sub1 (s.old ((A + 1 : Nat) : Int)))).go 1 (A : Int) id) { fra1 1 (A : Int) ((A + 1 : Nat) : Int) ((A + 2 : Nat) : Int) n 0 with fu := s.old ((A + 1 : Nat) : Int), fv := (s2.go 2 ((A + 1 : Nat) : Int) (fun _ => sub1 (s.old ((A + 1 : Nat) : Int)))).old (A : Int), ln := Go.Proofs.YtgipddeldddbnaaGreat.pop4 (sizeI (sub1 (s.old ((A + 1 : Nat) : Int))) ((s2.go 2 ((A + 1 : Nat) : Int) (fun _ => sub1 (s.old ((A + 1 : Nat) : Int)))).old (A : Int))) } = some x := by
    rw [t3, hz]
    rw [← h.bot] at hx
    exact hx
  exact runS_cons e1 (runS_cons e2 (runS_cons e3 (runS_cons e4 hx')))
/-- A pop that leaves entries. -/
theorem DA.pop {v : Int} (h : DA s A n t (l ++ [v])) (hl : 0 < l.length) (hb : t + l.length < 18446744073709550000) : ∃ s', runS popS 20 s (fra1 1 (A : Int) ((A + 1 : Nat) : Int) ((A + 2 : Nat) : Int) n 0) = some (s', ⟨true, 1, IntKind.i64.wrap v⟩, 5) ∧ DA s' A n t l := by
  have hn := h.nn
  have hlen : (l ++ [v]).length = l.length + 1 := by simp
  have hc := h.cap
  obtain ⟨s4, hx, l4, b4, o4⟩ := h.pop4 (by omega) (by omega)
  rw [hlen] at hx b4
  have hp : Go.Proofs.YtgipddeldddbnaaGreat.pop4 ((l.length + 1 - 1 : Nat) : Int) = 5 := by
    unfold Go.Proofs.YtgipddeldddbnaaGreat.pop4
    rw [if_neg (by omega), if_neg (by omega)]
  rw [hp] at hx
  have hsub : sub1 ((t + (l.length + 1) : Nat) : Int) = ((t + l.length : Nat) : Int) := by
    show IntKind.u64.wrap _ = _
    rw [IntWalk.u64_in _ (by omega)]
    omega
  have e5 := popS_58 (s := s4) (f := { fra1 1 (A : Int) ((A + 1 : Nat) : Int) ((A + 2 : Nat) : Int) n 0 with fu := ((t + (l.length + 1) : Nat) : Int), fv := (t : Int), ln := 5 }) (.inl rfl)
  have hr : ringI ((A + 2 : Nat) : Int) n (sub1 ((t + (l.length + 1) : Nat) : Int)) = ((A + 2 + (t + l.length) % n : Nat) : Int) := by rw [hsub, ringA_of A n h.hA hn]
  have hv : s4.old ((A + 2 + (t + l.length) % n : Nat) : Int) = v := by
    rw [o4 _ (by omega), h.ent l.length (by omega)]
    simp
  have hrun := hx _ (runS_last e5 rfl)
  refine ⟨s4.go 1 (ringI ((A + 2 : Nat) : Int) n (sub1 ((t + (l.length + 1) : Nat) : Int))) id, ?_, ?_⟩
  · rw [hrun]
    show some (_, (⟨true, 1, IntKind.i64.wrap (s4.old (ringI ((A + 2 : Nat) : Int) n (sub1 ((t + (l.length + 1) : Nat) : Int))))⟩ : Res), _) = _
    rw [hr, hv]
  · refine DA.load ⟨h.hA, by rw [l4]; exact h.len, by rw [o4 (A : Int) (by omega)]; exact h.top, ?_, by omega, fun i hi => ?_, hn⟩ _ _
    · rw [b4]
      omega
    · rw [o4 _ (by omega), h.ent i (by omega), List.getD_eq_getElem?_getD, List.getD_eq_getElem?_getD, List.getElem?_append_left hi]
/-- A pop of the last entry. -/
theorem DA.last {v : Int} (h : DA s A n t [v]) (hb : t < 18446744073709550000) : ∃ s', runS popS 20 s (fra1 1 (A : Int) ((A + 1 : Nat) : Int) ((A + 2 : Nat) : Int) n 0) = some (s', ⟨true, 1, IntKind.i64.wrap v⟩, 7) ∧ DA s' A n (t + 1) [] := by
  have hn := h.nn
  obtain ⟨s4, hx, l4, b4, o4⟩ := h.pop4 (by simp) (by simp; omega)
  have hlen : [v].length = 1 := rfl
  rw [hlen] at hx b4
  have hp : Go.Proofs.YtgipddeldddbnaaGreat.pop4 ((1 - 1 : Nat) : Int) = 6 := by
    unfold Go.Proofs.YtgipddeldddbnaaGreat.pop4
    rw [if_pos (by omega)]
  rw [hp] at hx
  have has4 : ∀ j : Nat, j < n + 2 → s4.has ((A + j : Nat) : Int) := fun j hj => ⟨by omega, by rw [l4]; have := h.len; omega⟩
  have has40 : s4.has (A : Int) := has4 0 (by omega)
  have t4 : s4.old (A : Int) = (t : Int) := by rw [o4 (A : Int) (by omega)]; exact h.top
  have e6 := popS_6 (s := s4) (f := { fra1 1 (A : Int) ((A + 1 : Nat) : Int) ((A + 2 : Nat) : Int) n 0 with fu := ((t + 1 : Nat) : Int), fv := (t : Int), ln := 6 }) rfl
  have hhit : s4.hit (A : Int) (t : Int) = true := by
    unfold St.hit
    rw [decide_eq_true has40, t4]
    simp
  have e6' : popS s4 { fra1 1 (A : Int) ((A + 1 : Nat) : Int) ((A + 2 : Nat) : Int) n 0 with fu := ((t + 1 : Nat) : Int), fv := (t : Int), ln := 6 } = (s4.go 3 (A : Int) (fun x => if x = (t : Int) then add1 t else x), { fra1 1 (A : Int) ((A + 1 : Nat) : Int) ((A + 2 : Nat) : Int) n 0 with fu := ((t + 1 : Nat) : Int), fv := (t : Int), ln := 7 }, .none) := by
    rw [e6]
    show (_, ({ fra1 1 (A : Int) ((A + 1 : Nat) : Int) ((A + 2 : Nat) : Int) n 0 with fu := ((t + 1 : Nat) : Int), fv := (t : Int), ln := if s4.hit (A : Int) (t : Int) = true then 7 else 9 } : Fra), _) = _
    rw [if_pos hhit]
  have hadd : add1 (t : Int) = ((t + 1 : Nat) : Int) := by
    show IntKind.u64.wrap _ = _
    rw [IntWalk.u64_in _ (by omega)]
    omega
  have o50 : (s4.go 3 (A : Int) (fun x => if x = (t : Int) then add1 t else x)).old (A : Int) = ((t + 1 : Nat) : Int) := by
    rw [go_old _ _ _ _ has40, t4, if_pos rfl, hadd]
  have o5 : ∀ j, j ≠ (A : Int) → (s4.go 3 (A : Int) (fun x => if x = (t : Int) then add1 t else x)).old j = s4.old j := fun j hj => go_other _ _ _ _ _ (fun e => hj e.symm)
  have l5 : (s4.go 3 (A : Int) (fun x => if x = (t : Int) then add1 t else x)).X.length = s.X.length := by rw [go_len, l4]
  generalize s4.go 3 (A : Int) (fun x => if x = (t : Int) then add1 t else x) = s5 at *
  have e7 := popS_7 (s := s5) (f := { fra1 1 (A : Int) ((A + 1 : Nat) : Int) ((A + 2 : Nat) : Int) n 0 with fu := ((t + 1 : Nat) : Int), fv := (t : Int), ln := 7 }) rfl
  have has5 : s5.has ((A + 1 : Nat) : Int) := ⟨by omega, by rw [l5]; have := h.len; omega⟩
  have o61 : (s5.go 2 ((A + 1 : Nat) : Int) (fun _ => ((t + 1 : Nat) : Int))).old ((A + 1 : Nat) : Int) = ((t + 1 : Nat) : Int) := go_old _ _ _ _ has5
  have o6 : ∀ j, j ≠ ((A + 1 : Nat) : Int) → (s5.go 2 ((A + 1 : Nat) : Int) (fun _ => ((t + 1 : Nat) : Int))).old j = s5.old j := fun j hj => go_other _ _ _ _ _ (fun e => hj e.symm)
  have l6 : (s5.go 2 ((A + 1 : Nat) : Int) (fun _ => ((t + 1 : Nat) : Int))).X.length = s.X.length := by rw [go_len, l5]
  have e8 := popS_58 (s := s5.go 2 ((A + 1 : Nat) : Int) (fun _ => ((t + 1 : Nat) : Int))) (f := { fra1 1 (A : Int) ((A + 1 : Nat) : Int) ((A + 2 : Nat) : Int) n 0 with fu := ((t + 1 : Nat) : Int), fv := (t : Int), ln := 8 }) (.inr rfl)
  generalize s5.go 2 ((A + 1 : Nat) : Int) (fun _ => ((t + 1 : Nat) : Int)) = s6 at *
  have hsub : sub1 ((t + 1 : Nat) : Int) = (t : Int) := by
    show IntKind.u64.wrap _ = _
    rw [IntWalk.u64_in _ (by omega)]
    omega
  have hr : ringI ((A + 2 : Nat) : Int) n (sub1 ((t + 1 : Nat) : Int)) = ((A + 2 + t % n : Nat) : Int) := by rw [hsub, ringA_of A n h.hA hn]
  have hv : s6.old ((A + 2 + t % n : Nat) : Int) = v := by
    have := h.ent 0 (by simp)
    simp only [Nat.add_zero t] at this
    rw [o6 _ (by omega), o5 _ (by omega), o4 _ (by omega), this]
    rfl
  have hrun := hx _ (runS_cons e6' (runS_cons e7 (runS_last e8 rfl)))
  refine ⟨s6.go 1 (ringI ((A + 2 : Nat) : Int) n (sub1 ((t + 1 : Nat) : Int))) id, ?_, ?_⟩
  · rw [hrun]
    show some (_, (⟨true, 1, IntKind.i64.wrap (s6.old (ringI ((A + 2 : Nat) : Int) n (sub1 ((t + 1 : Nat) : Int))))⟩ : Res), _) = _
    rw [hr, hv]
  · refine DA.load ⟨h.hA, by rw [l6]; exact h.len, by rw [o6 (A : Int) (by omega)]; exact o50, by rw [o61]; simp, by simp, fun i hi => by simp at hi, hn⟩ _ _
end
end Go.Proofs.YtgipddeldddbnaaGreat
