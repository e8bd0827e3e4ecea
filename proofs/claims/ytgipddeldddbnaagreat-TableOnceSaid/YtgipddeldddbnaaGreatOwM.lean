/-
  Plain mathematics of one deque: what push and pop alone do. No function is named.
-/
import Derived.Test.YtgipddeldddbnaaGreatMgBA
import Derived.Test.YtgipddeldddbnaaGreatMgBB
namespace Go.Proofs.YtgipddeldddbnaaGreat
open Go Go.RowKit
set_option linter.unusedSimpArgs false

theorem runS_step {stp : St → Fra → St × Fra × Res} {n : Nat} {s s' : St} {f f' : Fra} (h : stp s f = (s', f', Res.none)) : runS stp (n + 1) s f = (runS stp n s' f').map fun x => (x.1, x.2.1, x.2.2 + 1) := by
  conv => lhs; unfold runS
  rw [h]
  rfl
theorem runS_last {stp : St → Fra → St × Fra × Res} {n : Nat} {s s' : St} {f f' : Fra} {r : Res} (h : stp s f = (s', f', r)) (hr : r.dn = true) : runS stp (n + 1) s f = some (s', r, 1) := by
  conv => lhs; unfold runS
  rw [h]
  exact if_pos hr

theorem runS_cons {stp : St → Fra → St × Fra × Res} {n : Nat} {s s' : St} {f f' : Fra} {x : St × Res × Nat} (h : stp s f = (s', f', Res.none)) (hx : runS stp n s' f' = some x) : runS stp (n + 1) s f = some (x.1, x.2.1, x.2.2 + 1) := by
  rw [runS_step h, hx]
  rfl
theorem go_id_old (s : St) (k i j : Int) : (s.go k i id).old j = s.old j := by
  by_cases hj : i = j
  · subst hj
    by_cases hi : s.has i
    · exact go_old s k i id hi
    · unfold St.go
      rw [if_neg hi]
  · exact go_other s k i j id hj

section
variable {s : St} {f : Fra}
theorem pushS_1 (h : f.ln = 1) : pushS s f = (s.go 1 f.qb id, { f with fu := s.old f.qb, ln := 2 }, .none) := by
  unfold pushS
  rw [if_pos h]
theorem pushS_2f (h : f.ln = 2) (hc : f.qc ≤ sizeI f.fu (s.old f.qt)) : pushS s f = (s.go 1 f.qt id, { f with fv := s.old f.qt }, ⟨true, 3, 0⟩) := by
  unfold pushS
  rw [if_neg (by omega), if_pos h, if_pos hc]
theorem pushS_2 (h : f.ln = 2) (hc : ¬ f.qc ≤ sizeI f.fu (s.old f.qt)) : pushS s f = (s.go 1 f.qt id, { f with fv := s.old f.qt, ln := 3 }, .none) := by
  unfold pushS
  rw [if_neg (by omega), if_pos h, if_neg hc]
theorem pushS_3 (h : f.ln = 3) : pushS s f = (s.go 2 (ringI f.qr f.qc f.fu) (fun _ => IntKind.u64.wrap f.fa), { f with ln := 4 }, .none) := by
  unfold pushS
  rw [if_neg (by omega), if_neg (by omega), if_pos h]
theorem pushS_4 (h : f.ln = 4) : pushS s f = (s.go 2 f.qb (fun _ => IntKind.u64.wrap (f.fu + 1)), f, ⟨true, 0, 0⟩) := by
  unfold pushS
  rw [if_neg (by omega), if_neg (by omega), if_neg (by omega)]
theorem popS_1 (h : f.ln = 1) : popS s f = (s.go 1 f.qb id, { f with fu := s.old f.qb, ln := 2 }, .none) := by
  unfold popS
  rw [if_pos h]
theorem popS_2e (h : f.ln = 2) (hc : sizeI f.fu (s.old f.qt) ≤ 0) : popS s f = (s.go 1 f.qt id, { f with fv := s.old f.qt }, ⟨true, 2, 0⟩) := by
  unfold popS
  rw [if_neg (by omega), if_pos h, if_pos hc]
theorem popS_2 (h : f.ln = 2) (hc : ¬ sizeI f.fu (s.old f.qt) ≤ 0) : popS s f = (s.go 1 f.qt id, { f with fv := s.old f.qt, ln := 3 }, .none) := by
  unfold popS
  rw [if_neg (by omega), if_pos h, if_neg hc]
theorem popS_3 (h : f.ln = 3) : popS s f = (s.go 2 f.qb (fun _ => sub1 f.fu), { f with ln := 4 }, .none) := by
  unfold popS
  rw [if_neg (by omega), if_neg (by omega), if_pos h]
theorem popS_4 (h : f.ln = 4) : popS s f = (s.go 1 f.qt id, { f with fv := s.old f.qt, ln := pop4 (sizeI (sub1 f.fu) (s.old f.qt)) }, .none) := by
  unfold popS
  rw [if_neg (by omega), if_neg (by omega), if_neg (by omega), if_pos h]
theorem popS_58 (h : f.ln = 5 ∨ f.ln = 8) : popS s f = (s.go 1 (ringI f.qr f.qc (sub1 f.fu)) id, f, ⟨true, 1, IntKind.i64.wrap (s.old (ringI f.qr f.qc (sub1 f.fu)))⟩) := by
  unfold popS
  rw [if_neg (by omega), if_neg (by omega), if_neg (by omega), if_neg (by omega), if_pos h]
theorem popS_6 (h : f.ln = 6) : popS s f = (s.go 3 f.qt (fun x => if x = f.fv then add1 f.fv else x), { f with ln := if s.hit f.qt f.fv then 7 else 9 }, .none) := by
  unfold popS
  rw [if_neg (by omega), if_neg (by omega), if_neg (by omega), if_neg (by omega), if_neg (by omega), if_pos h]
theorem popS_7 (h : f.ln = 7) : popS s f = (s.go 2 f.qb (fun _ => f.fu), { f with ln := 8 }, .none) := by
  unfold popS
  rw [if_neg (by omega), if_neg (by omega), if_neg (by omega), if_neg (by omega), if_neg (by omega), if_neg (by omega), if_pos h]
end

theorem size_of {b t : Nat} (h : t ≤ b) (h' : b - t < 1000000) : sizeI b t = ((b - t : Nat) : Int) := by
  unfold sizeI
  rw [IntWalk.u64_in _ (by omega)]
  unfold wrap64
  omega
theorem ring_of (n : Nat) (hn : 1 ≤ n ∧ n ≤ 100) (i : Nat) : ringI 2 n (i : Int) = ((2 + i % n : Nat) : Int) := by
  unfold ringI
  rw [if_neg (by omega)]
  have h2 := Nat.mod_lt i (show n > 0 by omega)
  rw [← Int.natCast_emod]
  unfold wrap64
  omega

/-- The state s holds, from cell 0 on, a deque with room for n entries, whose indices begin with t and whose entries are the words l. -/
structure DQ (s : St) (n t : Nat) (l : List Int) : Prop where
  len : n + 2 ≤ s.X.length
  top : s.old 0 = t
  bot : s.old 1 = ((t + l.length : Nat) : Int)
  cap : l.length ≤ n
  ent : ∀ i, i < l.length → s.old ((2 + (t + i) % n : Nat) : Int) = l.getD i 0
  nn : 1 ≤ n ∧ n ≤ 100

section
variable {s : St} {n t : Nat} {l : List Int}
theorem DQ.load (h : DQ s n t l) (k i : Int) : DQ (s.go k i id) n t l :=
  ⟨by rw [go_len]; exact h.len, by rw [go_id_old]; exact h.top, by rw [go_id_old]; exact h.bot, h.cap, fun j hj => by rw [go_id_old]; exact h.ent j hj, h.nn⟩
theorem DQ.hasN (h : DQ s n t l) {j : Nat} (hj : j < n + 2) : s.has (j : Int) := ⟨by omega, by have := h.len; omega⟩
theorem DQ.has1 (h : DQ s n t l) : s.has 1 := h.hasN (j := 1) (by have := h.nn; omega)
theorem DQ.full (h : DQ s n t l) (hl : l.length = n) (v : Int) : ∃ s', runS pushS 20 s (fra1 0 0 1 2 n v) = some (s', ⟨true, 3, 0⟩, 2) ∧ DQ s' n t l := by
  have hn := h.nn
  have e1 : pushS s (fra1 0 0 1 2 n v) = _ := pushS_1 rfl
  have h1 := h.load 1 1
  have hsz : sizeI (s.old 1) ((s.go 1 1 id).old 0) = (n : Int) := by
    rw [h.bot, h1.top, size_of (by omega) (by omega)]
    omega
  have e2 := pushS_2f (s := s.go 1 1 id) (f := { fra1 0 0 1 2 n v with fu := s.old 1, ln := 2 }) rfl (by show (n : Int) ≤ sizeI (s.old 1) ((s.go 1 1 id).old 0); omega)
  exact ⟨_, runS_cons e1 (runS_last e2 rfl), h1.load 1 0⟩
theorem DQ.push (h : DQ s n t l) (hl : l.length < n) (hb : t + l.length < 18446744073709551000) (v : Int) : ∃ s', runS pushS 20 s (fra1 0 0 1 2 n v) = some (s', ⟨true, 0, 0⟩, 4) ∧ DQ s' n t (l ++ [IntKind.u64.wrap v]) := by
  have hn := h.nn
  have hm := Nat.mod_lt (t + l.length) (show n > 0 by omega)
  have e1 : pushS s (fra1 0 0 1 2 n v) = _ := pushS_1 rfl
  have h1 := h.load 1 1
  have hsz : sizeI (s.old 1) ((s.go 1 1 id).old 0) = (l.length : Int) := by
    rw [h.bot, h1.top, size_of (by omega) (by omega)]
    omega
  have h2 := h1.load 1 0
  obtain ⟨s2, hs2⟩ : ∃ s2, (s.go 1 1 id).go 1 0 id = s2 := ⟨_, rfl⟩
  have e2 : pushS (s.go 1 1 id) { fra1 0 0 1 2 n v with fu := s.old 1, ln := 2 } = (s2, { fra1 0 0 1 2 n v with fu := s.old 1, fv := (s.go 1 1 id).old 0, ln := 3 }, .none) := by
    rw [← hs2]
    exact pushS_2 rfl (by show ¬ (n : Int) ≤ sizeI (s.old 1) ((s.go 1 1 id).old 0); omega)
  rw [hs2] at h2
  have e3 := pushS_3 (s := s2) (f := { fra1 0 0 1 2 n v with fu := s.old 1, fv := (s.go 1 1 id).old 0, ln := 3 }) rfl
  have e4 := pushS_4 (s := s2.go 2 (ringI 2 n (s.old 1)) (fun _ => IntKind.u64.wrap v)) (f := { fra1 0 0 1 2 n v with fu := s.old 1, fv := (s.go 1 1 id).old 0, ln := 4 }) rfl
  refine ⟨(s2.go 2 (ringI 2 n (s.old 1)) (fun _ => IntKind.u64.wrap v)).go 2 1 (fun _ => IntKind.u64.wrap (s.old 1 + 1)), runS_cons e1 (runS_cons e2 (runS_cons e3 (runS_last e4 rfl))), ?_⟩
  · rw [h.bot, ring_of n hn]
    have hr := h2.hasN (j := 2 + (t + l.length) % n) (by omega)
    refine ⟨by rw [go_len, go_len]; exact h2.len, ?_, ?_, by rw [List.length_append]; simp; omega, fun i hi => ?_, hn⟩
    · rw [go_other _ _ _ _ _ (by omega), go_other _ _ _ _ _ (by omega)]
      exact h2.top
    · rw [go_old _ _ _ _ ((go_has _ _ _ _ _).2 h2.has1), List.length_append]
      show IntKind.u64.wrap _ = _
      rw [IntWalk.u64_in _ (by omega)]
      simp
      omega
    · rw [go_other _ _ _ _ _ (by omega)]
      rw [List.length_append] at hi
      simp only [List.length_cons, List.length_nil, Nat.zero_add] at hi
      by_cases hil : i < l.length
      · have hne := mod_ne (n := n) (a := t + i) (b := t + l.length) (by omega) (by omega)
        rw [go_other _ _ _ _ _ (by omega), h2.ent i hil, List.getD_eq_getElem?_getD, List.getD_eq_getElem?_getD, List.getElem?_append_left hil]
      · obtain rfl : i = l.length := by omega
        rw [go_old _ _ _ _ hr, List.getD_eq_getElem?_getD, List.getElem?_append_right (Nat.le_refl _), Nat.sub_self]
        rfl
theorem DQ.none (h : DQ s n t []) : ∃ s', runS popS 20 s (fra1 1 0 1 2 n 0) = some (s', ⟨true, 2, 0⟩, 2) ∧ DQ s' n t [] := by
  have e1 : popS s (fra1 1 0 1 2 n 0) = _ := popS_1 rfl
  have h1 := h.load 1 1
  have hsz : sizeI (s.old 1) ((s.go 1 1 id).old 0) = 0 := by
    rw [h.bot, h1.top, size_of (by simp) (by simp)]
    simp
  have e2 := popS_2e (s := s.go 1 1 id) (f := { fra1 1 0 1 2 n 0 with fu := s.old 1, ln := 2 }) rfl (by show sizeI (s.old 1) ((s.go 1 1 id).old 0) ≤ 0; omega)
  exact ⟨_, runS_cons e1 (runS_last e2 rfl), h1.load 1 0⟩
/-- The first four lines of a pop that finds entries. -/
theorem DQ.pop4 (h : DQ s n t l) (hl : 0 < l.length) (hb : t + l.length < 18446744073709551000) : ∃ s4 : St, (∀ x, runS popS 16 s4 { fra1 1 0 1 2 n 0 with fu := ((t + l.length : Nat) : Int), fv := (t : Int), ln := Go.Proofs.YtgipddeldddbnaaGreat.pop4 ((l.length - 1 : Nat) : Int) } = some x → runS popS 20 s (fra1 1 0 1 2 n 0) = some (x.1, x.2.1, x.2.2 + 4)) ∧
    s4.X.length = s.X.length ∧ s4.old 1 = ((t + l.length - 1 : Nat) : Int) ∧ ∀ j, j ≠ 1 → s4.old j = s.old j := by
  have hn := h.nn
  have hc := h.cap
  have e1 : popS s (fra1 1 0 1 2 n 0) = _ := popS_1 rfl
  have h1 := h.load 1 1
  have hsz : sizeI (s.old 1) ((s.go 1 1 id).old 0) = (l.length : Int) := by
    rw [h.bot, h1.top, size_of (by omega) (by omega)]
    omega
  have h2 := h1.load 1 0
  have o2 : ∀ j, ((s.go 1 1 id).go 1 0 id).old j = s.old j := fun j => by rw [go_id_old, go_id_old]
  have l2 : ((s.go 1 1 id).go 1 0 id).X.length = s.X.length := by rw [go_len, go_len]
  have t1 := h1.top
  obtain ⟨s2, hs2⟩ : ∃ s2, (s.go 1 1 id).go 1 0 id = s2 := ⟨_, rfl⟩
  have e2 : popS (s.go 1 1 id) { fra1 1 0 1 2 n 0 with fu := s.old 1, ln := 2 } = (s2, { fra1 1 0 1 2 n 0 with fu := s.old 1, fv := (s.go 1 1 id).old 0, ln := 3 }, .none) := by
    rw [← hs2]
    exact popS_2 rfl (by show ¬ sizeI (s.old 1) ((s.go 1 1 id).old 0) ≤ 0; omega)
  rw [hs2] at h2 o2 l2
  have e3 := popS_3 (s := s2) (f := { fra1 1 0 1 2 n 0 with fu := s.old 1, fv := (s.go 1 1 id).old 0, ln := 3 }) rfl
  have hsub : sub1 (s.old 1) = ((t + l.length - 1 : Nat) : Int) := by
    rw [h.bot]
    show IntKind.u64.wrap _ = _
    rw [IntWalk.u64_in _ (by omega)]
    omega
  have o3 : ∀ j, j ≠ 1 → (s2.go 2 1 (fun _ => sub1 (s.old 1))).old j = s.old j := fun j hj => by rw [go_other _ _ _ _ _ (fun e => hj e.symm), o2]
  have o31 : (s2.go 2 1 (fun _ => sub1 (s.old 1))).old 1 = ((t + l.length - 1 : Nat) : Int) := by rw [go_old _ _ _ _ h2.has1, hsub]
  have l3 : (s2.go 2 1 (fun _ => sub1 (s.old 1))).X.length = s.X.length := by rw [go_len, l2]
  have e4 := popS_4 (s := s2.go 2 1 (fun _ => sub1 (s.old 1))) (f := { fra1 1 0 1 2 n 0 with fu := s.old 1, fv := (s.go 1 1 id).old 0, ln := 4 }) rfl
  have t3 : (s2.go 2 1 (fun _ => sub1 (s.old 1))).old 0 = (t : Int) := by rw [o3 0 (by omega), h.top]
  refine ⟨(s2.go 2 1 (fun _ => sub1 (s.old 1))).go 1 0 id, fun x hx => ?_, by rw [go_len, l3], by rw [go_id_old, o31], fun j hj => by rw [go_id_old, o3 j hj]⟩
  have hz : sizeI (sub1 (s.old 1)) (t : Int) = ((l.length - 1 : Nat) : Int) := by
    rw [hsub, size_of (by omega) (by omega)]
    omega
  have hx' : runS popS 16 ((s2.go 2 1 (fun _ => sub1 (s.old 1))).go 1 0 id) { fra1 1 0 1 2 n 0 with fu := s.old 1, fv := (s2.go 2 1 (fun _ => sub1 (s.old 1))).old 0, ln := Go.Proofs.YtgipddeldddbnaaGreat.pop4 (sizeI (sub1 (s.old 1)) ((s2.go 2 1 (fun _ => sub1 (s.old 1))).old 0)) } = some x := by
    rw [t3, hz]
    rw [← h.bot] at hx
    exact hx
  exact runS_cons e1 (runS_cons e2 (runS_cons e3 (runS_cons e4 hx')))
/-- A pop that leaves entries. -/
theorem DQ.pop {v : Int} (h : DQ s n t (l ++ [v])) (hl : 0 < l.length) (hb : t + l.length < 18446744073709550000) : ∃ s', runS popS 20 s (fra1 1 0 1 2 n 0) = some (s', ⟨true, 1, IntKind.i64.wrap v⟩, 5) ∧ DQ s' n t l := by
  have hn := h.nn
  have hlen : (l ++ [v]).length = l.length + 1 := by simp
  have hc := h.cap
  obtain ⟨s4, hx, l4, b4, o4⟩ := h.pop4 (by omega) (by omega)
  rw [hlen] at hx b4
  have hp : Go.Proofs.YtgipddeldddbnaaGreat.pop4 ((l.length + 1 - 1 : Nat) : Int) = 5 := by
    unfold Go.Proofs.YtgipddeldddbnaaGreat.pop4
    rw [if_neg (by omega), if_neg (by omega)]
  rw [hp] at hx
  have hsub : sub1 ((t + (l.length + 1) : Nat) : Int) = ((t + l.length : Nat) : Int) := by
    show IntKind.u64.wrap _ = _
    rw [IntWalk.u64_in _ (by omega)]
    omega
  have e5 := popS_58 (s := s4) (f := { fra1 1 0 1 2 n 0 with fu := ((t + (l.length + 1) : Nat) : Int), fv := (t : Int), ln := 5 }) (.inl rfl)
  have hr : ringI 2 n (sub1 ((t + (l.length + 1) : Nat) : Int)) = ((2 + (t + l.length) % n : Nat) : Int) := by rw [hsub, ring_of n hn]
  have hv : s4.old ((2 + (t + l.length) % n : Nat) : Int) = v := by
    rw [o4 _ (by omega), h.ent l.length (by omega)]
    simp
  have hrun := hx _ (runS_last e5 rfl)
  refine ⟨s4.go 1 (ringI 2 n (sub1 ((t + (l.length + 1) : Nat) : Int))) id, ?_, ?_⟩
  · rw [hrun]
    show some (_, (⟨true, 1, IntKind.i64.wrap (s4.old (ringI 2 n (sub1 ((t + (l.length + 1) : Nat) : Int))))⟩ : Res), _) = _
    rw [hr, hv]
  · refine DQ.load ⟨by rw [l4]; exact h.len, by rw [o4 0 (by omega)]; exact h.top, ?_, by omega, fun i hi => ?_, hn⟩ _ _
    · rw [b4]
      omega
    · rw [o4 _ (by omega), h.ent i (by omega), List.getD_eq_getElem?_getD, List.getD_eq_getElem?_getD, List.getElem?_append_left hi]
/-- A pop of the last entry. -/
theorem DQ.last {v : Int} (h : DQ s n t [v]) (hb : t < 18446744073709550000) : ∃ s', runS popS 20 s (fra1 1 0 1 2 n 0) = some (s', ⟨true, 1, IntKind.i64.wrap v⟩, 7) ∧ DQ s' n (t + 1) [] := by
  have hn := h.nn
  obtain ⟨s4, hx, l4, b4, o4⟩ := h.pop4 (by simp) (by simp; omega)
  have hlen : [v].length = 1 := rfl
  rw [hlen] at hx b4
  have hp : Go.Proofs.YtgipddeldddbnaaGreat.pop4 ((1 - 1 : Nat) : Int) = 6 := by
    unfold Go.Proofs.YtgipddeldddbnaaGreat.pop4
    rw [if_pos (by omega)]
  rw [hp] at hx
  have has4 : ∀ j : Nat, j < n + 2 → s4.has (j : Int) := fun j hj => ⟨by omega, by rw [l4]; have := h.len; omega⟩
  have has40 : s4.has 0 := has4 0 (by omega)
  have t4 : s4.old 0 = (t : Int) := by rw [o4 0 (by omega)]; exact h.top
  have e6 := popS_6 (s := s4) (f := { fra1 1 0 1 2 n 0 with fu := ((t + 1 : Nat) : Int), fv := (t : Int), ln := 6 }) rfl
  have hhit : s4.hit 0 (t : Int) = true := by
    unfold St.hit
    rw [decide_eq_true has40, t4]
    simp
  have e6' : popS s4 { fra1 1 0 1 2 n 0 with fu := ((t + 1 : Nat) : Int), fv := (t : Int), ln := 6 } = (s4.go 3 0 (fun x => if x = (t : Int) then add1 t else x), { fra1 1 0 1 2 n 0 with fu := ((t + 1 : Nat) : Int), fv := (t : Int), ln := 7 }, .none) := by
    rw [e6]
    show (_, ({ fra1 1 0 1 2 n 0 with fu := ((t + 1 : Nat) : Int), fv := (t : Int), ln := if s4.hit 0 (t : Int) = true then 7 else 9 } : Fra), _) = _
    rw [if_pos hhit]
  have hadd : add1 (t : Int) = ((t + 1 : Nat) : Int) := by
    show IntKind.u64.wrap _ = _
    rw [IntWalk.u64_in _ (by omega)]
    omega
  have o50 : (s4.go 3 0 (fun x => if x = (t : Int) then add1 t else x)).old 0 = ((t + 1 : Nat) : Int) := by
    rw [go_old _ _ _ _ has40, t4, if_pos rfl, hadd]
  have o5 : ∀ j, j ≠ 0 → (s4.go 3 0 (fun x => if x = (t : Int) then add1 t else x)).old j = s4.old j := fun j hj => go_other _ _ _ _ _ (fun e => hj e.symm)
  have l5 : (s4.go 3 0 (fun x => if x = (t : Int) then add1 t else x)).X.length = s.X.length := by rw [go_len, l4]
  generalize s4.go 3 0 (fun x => if x = (t : Int) then add1 t else x) = s5 at *
  have e7 := popS_7 (s := s5) (f := { fra1 1 0 1 2 n 0 with fu := ((t + 1 : Nat) : Int), fv := (t : Int), ln := 7 }) rfl
  have has5 : s5.has 1 := ⟨by omega, by rw [l5]; have := h.len; omega⟩
  have o61 : (s5.go 2 1 (fun _ => ((t + 1 : Nat) : Int))).old 1 = ((t + 1 : Nat) : Int) := go_old _ _ _ _ has5
  have o6 : ∀ j, j ≠ 1 → (s5.go 2 1 (fun _ => ((t + 1 : Nat) : Int))).old j = s5.old j := fun j hj => go_other _ _ _ _ _ (fun e => hj e.symm)
  have l6 : (s5.go 2 1 (fun _ => ((t + 1 : Nat) : Int))).X.length = s.X.length := by rw [go_len, l5]
  have e8 := popS_58 (s := s5.go 2 1 (fun _ => ((t + 1 : Nat) : Int))) (f := { fra1 1 0 1 2 n 0 with fu := ((t + 1 : Nat) : Int), fv := (t : Int), ln := 8 }) (.inr rfl)
  generalize s5.go 2 1 (fun _ => ((t + 1 : Nat) : Int)) = s6 at *
  have hsub : sub1 ((t + 1 : Nat) : Int) = (t : Int) := by
    show IntKind.u64.wrap _ = _
    rw [IntWalk.u64_in _ (by omega)]
    omega
  have hr : ringI 2 n (sub1 ((t + 1 : Nat) : Int)) = ((2 + t % n : Nat) : Int) := by rw [hsub, ring_of n hn]
  have hv : s6.old ((2 + t % n : Nat) : Int) = v := by
    have := h.ent 0 (by simp)
    rw [Nat.add_zero] at this
    rw [o6 _ (by omega), o5 _ (by omega), o4 _ (by omega), this]
    rfl
  have hrun := hx _ (runS_cons e6' (runS_cons e7 (runS_last e8 rfl)))
  refine ⟨s6.go 1 (ringI 2 n (sub1 ((t + 1 : Nat) : Int))) id, ?_, ?_⟩
  · rw [hrun]
    show some (_, (⟨true, 1, IntKind.i64.wrap (s6.old (ringI 2 n (sub1 ((t + 1 : Nat) : Int))))⟩ : Res), _) = _
    rw [hr, hv]
  · refine DQ.load ⟨by rw [l6]; exact h.len, by rw [o6 0 (by omega)]; exact o50, by rw [o61]; simp, by simp, fun i hi => by simp at hi, hn⟩ _ _
end
end Go.Proofs.YtgipddeldddbnaaGreat
