/-
  Package injector: its machines alone change the slots as pushes and pops change a list. No function is named.
-/
import Derived.Test.YtanbjdlaolgepaaMgAF
namespace Go.Proofs.Ytanbjdlaolgepaa
open Go Go.RowKit
set_option linter.unusedSimpArgs false
set_option linter.unusedVariables false

/-- The steps of a machine that emits. -/
inductive RunE (stp : St → List Ev → Fra → St × List Ev × Fra × Res) : St → List Ev → Fra → St → List Ev → Res → Nat → Prop
  | last {s : St} {es : List Ev} {f : Fra} : (stp s es f).2.2.2.dn = true → RunE stp s es f (stp s es f).1 (stp s es f).2.1 (stp s es f).2.2.2 1
  | cons {s s' : St} {es es' : List Ev} {f : Fra} {r : Res} {n : Nat} : (stp s es f).2.2.2.dn = false → RunE stp (stp s es f).1 (stp s es f).2.1 (stp s es f).2.2.1 s' es' r n → RunE stp s es f s' es' r (n + 1)
theorem RunE.go {stp : St → List Ev → Fra → St × List Ev × Fra × Res} {s s1 s' : St} {es es1 es' : List Ev} {f f1 : Fra} {r : Res} {n : Nat} (h : stp s es f = (s1, es1, f1, .none)) (hr : RunE stp s1 es1 f1 s' es' r n) : RunE stp s es f s' es' r (n + 1) := by
  refine RunE.cons (by rw [h]) ?_
  rw [h]
  exact hr
theorem RunE.stop {stp : St → List Ev → Fra → St × List Ev × Fra × Res} {s s1 : St} {es es1 : List Ev} {f f1 : Fra} {r : Res} (h : stp s es f = (s1, es1, f1, r)) (hd : r.dn = true) : RunE stp s es f s1 es1 r 1 := by
  have := RunE.last (stp := stp) (s := s) (es := es) (f := f) (by rw [h]; exact hd)
  rw [h] at this
  exact this
def insE (c : Cfg) (s : St) (es : List Ev) (f : Fra) : St × List Ev × Fra × Res := ((insertS c s f).1, es, (insertS c s f).2.1, (insertS c s f).2.2)
section
variable {c : Cfg} {s : St} {es : List Ev} {f : Fra}
theorem ins_l1f (h : f.ln = 1) (hc : c.he ≤ wrap64 (s.old 2)) : insE c s es f = (s.go 1 2 id, es, { f with fn := wrap64 (s.old 2) }, ⟨true, 3, 0⟩) := by
  unfold insE insertS
  rw [if_pos h, if_pos hc]
theorem ins_l1 (h : f.ln = 1) (hc : ¬ c.he ≤ wrap64 (s.old 2)) : insE c s es f = (s.go 1 2 id, es, { f with fn := wrap64 (s.old 2), ln := 2 }, .none) := by
  unfold insE insertS
  rw [if_pos h, if_neg hc]
theorem ins_l2 (h : f.ln = 2) (hk : Keyed f.fa (IntKind.i64.wrap (s.old 3)) f.fb) : insE c s es f = (s.go 6 3 (fun x => IntKind.u64.wrap (x + 1)), es, { f with fw := keyS f.fa (IntKind.i64.wrap (s.old 3)) f.fb, fi := f.fn, ln := if f.fn ≤ 0 then 5 else 3 }, .none) := by
  unfold insE insertS
  rw [if_neg (by omega), if_pos h, if_pos hk]
theorem ins_l3 (h : f.ln = 3) : insE c s es f = (s.go 1 (rSlot c (parD f.fi)) id, es, { f with fx := s.old (rSlot c (parD f.fi)), ln := if s.old (rSlot c (parD f.fi)) ≤ f.fw then 5 else 4 }, .none) := by
  unfold insE insertS
  rw [if_neg (by omega), if_neg (by omega), if_pos h]
theorem ins_l4 (h : f.ln = 4) : insE c s es f = (s.go 2 (rSlot c f.fi) (fun _ => f.fx), es, { f with fi := parI f.fi, ln := if parI f.fi ≤ 0 then 5 else 3 }, .none) := by
  unfold insE insertS
  rw [if_neg (by omega), if_neg (by omega), if_neg (by omega), if_pos h]
theorem ins_l5 (h : f.ln = 5) : insE c s es f = (s.go 2 (rSlot c f.fi) (fun _ => f.fw), es, { f with ln := 6 }, .none) := by
  unfold insE insertS
  rw [if_neg (by omega), if_neg (by omega), if_neg (by omega), if_neg (by omega), if_pos h]
theorem ins_l6 (h : f.ln = 6) : insE c s es f = (s.go 2 2 (fun _ => IntKind.u64.wrap (wrap64 (f.fn + 1))), es, f, ⟨true, 0, 0⟩) := by
  unfold insE insertS
  rw [if_neg (by omega), if_neg (by omega), if_neg (by omega), if_neg (by omega), if_neg (by omega)]
end
theorem goid_old (s : St) (k a j : Int) : (s.go k a id).old j = s.old j := by
  by_cases h : a = j
  · subst h
    by_cases ha : s.has a
    · exact go_old s k a id ha
    · unfold St.go
      rw [if_neg ha]
  · exact go_other s k a j id h
theorem slot_is {c : Cfg} {i : Nat} (h : (i : Int) < c.he) : rSlot c i = 4 + i := by
  unfold rSlot ixs
  rw [if_neg (by omega)]
  omega
theorem cells_ge {c : Cfg} (hin : CfgIn c) : 5 + c.he ≤ rCells c ∧ rCells c ≤ 70000 := by
  have h1 := hin.all
  have h2 := hin.cl
  have h3 := hin.wo
  have h4 := hin.ta
  have h5 := hin.cells
  unfold rCells rDeques at *
  omega
/-- A memory of a configuration: its words, its size. -/
structure MemC (c : Cfg) (s : St) : Prop where
  u : s.U
  len : s.X.length = (rCells c).toNat
theorem MemC.has {c : Cfg} {s : St} (h : MemC c s) (hin : CfgIn c) {j : Int} (h0 : 0 ≤ j) (h1 : j < 5 + c.he) : s.has j := by
  have := cells_ge hin
  have := h.len
  exact ⟨h0, by omega⟩
theorem MemC.go {c : Cfg} {s : St} (h : MemC c s) (k a : Int) (F : Int → Int) (hF : ∀ x, uw x → uw (F x)) : MemC c (s.go k a F) := ⟨go_U h.u k a F hF, (go_len s k a F).trans h.len⟩
theorem MemC.load {c : Cfg} {s : St} (h : MemC c s) (k a : Int) : MemC c (s.go k a id) := h.go k a id (fun x hx => hx)
/-- The slots hold the list, but for one. -/
def SlB (c : Cfg) (L : List Int) (s : St) (i : Nat) : Prop := ∀ j, j < L.length → j ≠ i → s.old (rSlot c j) = elt L j
def SlA (c : Cfg) (L : List Int) (s : St) : Prop := ∀ j, j < L.length → s.old (rSlot c j) = elt L j
theorem slot_put {c : Cfg} {s : St} (h : MemC c s) (hin : CfgIn c) {i j : Nat} (hi : (i : Int) < c.he) (hj : (j : Int) < c.he) (x : Int) : (s.go 2 (rSlot c i) (fun _ => x)).old (rSlot c j) = if j = i then x else s.old (rSlot c j) := by
  rw [slot_is hi, slot_is hj]
  split
  · rename_i e
    subst e
    exact go_old s 2 _ _ (h.has hin (by omega) (by omega))
  · exact go_other s 2 _ _ _ (by omega)
theorem slot_low {c : Cfg} {s : St} {i : Nat} (hi : (i : Int) < c.he) {j : Int} (hj : j < 4) (k : Int) (F : Int → Int) : (s.go k (rSlot c i) F).old j = s.old j := go_other s k _ _ _ (by rw [slot_is hi]; omega)
theorem low_slot {c : Cfg} {s : St} {i : Nat} (hi : (i : Int) < c.he) {j : Int} (hj : j < 4) (k : Int) (F : Int → Int) : (s.go k j F).old (rSlot c i) = s.old (rSlot c i) := go_other s k _ _ _ (by rw [slot_is hi]; omega)
theorem SlB.load {c : Cfg} {L : List Int} {s : St} {i : Nat} (h : SlB c L s i) (k a : Int) : SlB c L (s.go k a id) i := fun j hj hn => (goid_old s k a _).trans (h j hj hn)
theorem SlA.load {c : Cfg} {L : List Int} {s : St} (h : SlA c L s) (k a : Int) : SlA c L (s.go k a id) := fun j hj => (goid_old s k a _).trans (h j hj)
/-- The open place moves. -/
theorem SlB.move {c : Cfg} {L : List Int} {s : St} {i : Nat} (h : SlB c L s i) (hm : MemC c s) (hin : CfgIn c) (hL : (L.length : Int) ≤ c.he) (hi : i < L.length) (x : Int) (p : Nat) : SlB c (L.set i x) (s.go 2 (rSlot c i) (fun _ => x)) p := by
  intro j hj hn
  rw [List.length_set] at hj
  rw [slot_put hm hin (by omega) (by omega), elt_set hi]
  split
  · rfl
  · rename_i hji
    exact h j hj hji
theorem SlB.fill {c : Cfg} {L : List Int} {s : St} {i : Nat} (h : SlB c L s i) (hm : MemC c s) (hin : CfgIn c) (hL : (L.length : Int) ≤ c.he) (hi : i < L.length) (x : Int) : SlA c (L.set i x) (s.go 2 (rSlot c i) (fun _ => x)) := by
  intro j hj
  rw [List.length_set] at hj
  rw [slot_put hm hin (by omega) (by omega), elt_set hi]
  split
  · rfl
  · rename_i hji
    exact h j hj hji
theorem par_is {i : Nat} (h : 0 < i) (h1 : i ≤ 1000) : parD (i : Int) = ((i - 1) / 2 : Nat) ∧ parI (i : Int) = ((i - 1) / 2 : Nat) := by
  have e : ((i : Int) - 1) = ((i - 1 : Nat) : Int) := by omega
  have e2 : (((i - 1 : Nat) : Int)).tdiv 2 = ((i - 1) / 2 : Nat) := by rw [Int.tdiv_eq_ediv_of_nonneg (by omega)]; omega
  constructor
  · unfold parD
    rw [wrap_two, wrap_two, w64_id (x := (i : Int) - 1) (by omega), e, e2, w64_id (by omega)]
  · unfold parI
    rw [w64_id (x := (i : Int) - 1) (by omega), e, e2, w64_id (by omega)]

/-- From line 3 or 5 on Insert puts the key where riseE puts it. -/
theorem rise_run {c : Cfg} (hin : CfgIn c) (i : Nat) : ∀ (s : St) (es : List Ev) (L : List Int) (f : Fra), MemC c s → (L.length : Int) ≤ c.he → i < L.length → SlB c L s i → f.fi = i → f.ln = (if i = 0 then 5 else 3) → f.U →
    ∃ s' N, RunE (insE c) s es f s' es ⟨true, 0, 0⟩ N ∧ N ≤ 2 * i + 2 ∧ MemC c s' ∧ SlA c (riseE L i f.fw) s' ∧ s'.old 2 = IntKind.u64.wrap (wrap64 (f.fn + 1)) ∧ s'.old 3 = s.old 3 := by
  have hhe := hin.he
  -- lines 5 and 6
  have last : ∀ (s : St) (es : List Ev) (L : List Int) (f : Fra) (i : Nat), MemC c s → (L.length : Int) ≤ c.he → i < L.length → SlB c L s i → f.fi = i → f.ln = 5 → f.U →
      ∃ s', RunE (insE c) s es f s' es ⟨true, 0, 0⟩ 2 ∧ MemC c s' ∧ SlA c (L.set i f.fw) s' ∧ s'.old 2 = IntKind.u64.wrap (wrap64 (f.fn + 1)) ∧ s'.old 3 = s.old 3 := by
    intro s es L f i hm hL hi hs hfi hln hu
    have h1 := ins_l5 (c := c) (s := s) (es := es) hln
    rw [show rSlot c f.fi = rSlot c (i : Int) by rw [hfi]] at h1
    have hm1 := hm.go 2 (rSlot c i) (fun _ => f.fw) (fun _ _ => hu.2.2.1)
    have h2 := ins_l6 (c := c) (s := s.go 2 (rSlot c i) (fun _ => f.fw)) (es := es) (f := { f with ln := 6 }) rfl
    refine ⟨_, RunE.go h1 (RunE.stop h2 rfl), hm1.go _ _ _ (fun _ _ => uw_wrap _), fun j hj => ?_, go_old _ 2 2 _ (hm1.has hin (by omega) (by omega)), ?_⟩
    · rw [low_slot (by rw [List.length_set] at hj; omega) (by omega)]
      exact hs.fill hm hin hL hi f.fw j hj
    · rw [go_other _ 2 2 3 _ (by omega), slot_low (by omega) (by omega)]
  induction i using Nat.strongRecOn with
  | ind i ih =>
    intro s es L f hm hL hi hs hfi hln hu
    by_cases h0 : i = 0
    · subst h0
      obtain ⟨s', h1, h2, h3, h4, h5⟩ := last s es L f 0 hm hL hi hs hfi (by simpa using hln) hu
      exact ⟨s', 2, h1, by omega, h2, by rw [riseE_end (.inl rfl)]; exact h3, h4, h5⟩
    · rw [if_neg h0] at hln
      obtain ⟨pD, pI⟩ := par_is (i := i) (by omega) (by omega)
      have hx : s.old (rSlot c ((i - 1) / 2 : Nat)) = elt L ((i - 1) / 2) := hs _ (by omega) (by omega)
      have h3 := ins_l3 (c := c) (s := s) (es := es) hln
      rw [show rSlot c (parD f.fi) = rSlot c ((i - 1) / 2 : Nat) by rw [hfi, pD], hx] at h3
      have hm1 := hm.load 1 (rSlot c ((i - 1) / 2 : Nat))
      have hs1 := hs.load 1 (rSlot c ((i - 1) / 2 : Nat))
      have hux : uw (elt L ((i - 1) / 2)) := hx ▸ hm.u _
      by_cases hc : elt L ((i - 1) / 2) ≤ f.fw
      · rw [if_pos hc] at h3
        obtain ⟨s', g1, g2, g3, g4, g5⟩ := last (s.go 1 (rSlot c ((i - 1) / 2 : Nat)) id) es L { f with fx := elt L ((i - 1) / 2), ln := 5 } i hm1 hL hi hs1 hfi rfl ⟨hu.1, hu.2.1, hu.2.2.1, hux⟩
        exact ⟨s', 3, RunE.go h3 g1, by omega, g2, by rw [riseE_end (.inr hc)]; exact g3, g4, g5.trans (goid_old _ _ _ _)⟩
      · rw [if_neg hc] at h3
        have h4 : insE c (s.go 1 (rSlot c ((i - 1) / 2 : Nat)) id) es { f with fx := elt L ((i - 1) / 2), ln := 4 } = ((s.go 1 (rSlot c ((i - 1) / 2 : Nat)) id).go 2 (rSlot c i) (fun _ => elt L ((i - 1) / 2)), es, { f with fx := elt L ((i - 1) / 2), fi := ((i - 1) / 2 : Nat), ln := if (((i - 1) / 2 : Nat) : Int) ≤ 0 then 5 else 3 }, .none) := by
          have h := ins_l4 (c := c) (s := s.go 1 (rSlot c ((i - 1) / 2 : Nat)) id) (es := es) (f := { f with fx := elt L ((i - 1) / 2), ln := 4 }) rfl
          rw [h]
          show (_, es, ({ f with fx := elt L ((i - 1) / 2), fi := parI f.fi, ln := if parI f.fi ≤ 0 then 5 else 3 } : Fra), Res.none) = _
          rw [show rSlot c ({ f with fx := elt L ((i - 1) / 2), ln := 4 } : Fra).fi = rSlot c (i : Int) by show rSlot c f.fi = _; rw [hfi], hfi, pI]
        have hm2 := hm1.go 2 (rSlot c i) (fun _ => elt L ((i - 1) / 2)) (fun _ _ => hux)
        obtain ⟨s', N, g1, g2, g3, g4, g5, g6⟩ := ih ((i - 1) / 2) (by omega) ((s.go 1 (rSlot c ((i - 1) / 2 : Nat)) id).go 2 (rSlot c i) (fun _ => elt L ((i - 1) / 2))) es (L.set i (elt L ((i - 1) / 2)))
          { f with fx := elt L ((i - 1) / 2), fi := ((i - 1) / 2 : Nat), ln := if (((i - 1) / 2 : Nat) : Int) ≤ 0 then 5 else 3 } hm2 (by rw [List.length_set]; exact hL) (by rw [List.length_set]; omega)
          (hs1.move hm1 hin hL hi _ _) rfl (by show (if (((i - 1) / 2 : Nat) : Int) ≤ 0 then (5 : Int) else 3) = _; by_cases hz : (i - 1) / 2 = 0 <;> simp [hz] <;> omega) ⟨hu.1, hu.2.1, hu.2.2.1, hux⟩
        refine ⟨s', N + 1 + 1, RunE.go h3 (RunE.go h4 g1), by omega, g3, by rw [riseE_go h0 hc]; exact g4, g5, g6.trans ?_⟩
        rw [slot_low (by omega) (by omega), goid_old]
end Go.Proofs.Ytanbjdlaolgepaa
