/-
  Package injector: Remove alone, and whole runs of both machines. No function is named.
-/
import Derived.Test.YtanbjdlaolgepaaInjR
namespace Go.Proofs.Ytanbjdlaolgepaa
open Go Go.RowKit
set_option linter.unusedSimpArgs false
set_option linter.unusedVariables false

section
variable {c : Cfg} {s : St} {es : List Ev} {f : Fra}
theorem rem_l1e (h : f.ln = 1) (hc : wrap64 (s.old 2) ≤ 0) : removeS c s es f = (s.go 1 2 id, es, { f with fn := wrap64 (s.old 2) }, ⟨true, 2, 0⟩) := by
  unfold removeS
  rw [if_pos h, if_pos hc, if_pos hc]
theorem rem_l1 (h : f.ln = 1) (hc : ¬ wrap64 (s.old 2) ≤ 0) : removeS c s es f = (s.go 1 2 id, es, { f with fn := wrap64 (s.old 2), ln := 2 }, .none) := by
  unfold removeS
  rw [if_pos h, if_neg hc, if_neg hc]
theorem rem_l2 (h : f.ln = 2) : removeS c s es f = (s.go 1 (rSlot c 0) id, es, { f with fu := s.old (rSlot c 0), ln := 3 }, .none) := by
  unfold removeS
  rw [if_neg (by omega), if_pos h]
theorem rem_l3 (h : f.ln = 3) (hn : 1 ≤ f.fn ∧ f.fn ≤ 1000) : removeS c s es f = (s.go 1 (rSlot c (f.fn - 1)) id, es, { f with fv := s.old (rSlot c (f.fn - 1)), ln := 4 }, .none) := by
  unfold removeS
  rw [if_neg (by omega), if_neg (by omega), if_pos h, wrap_two, w64_id (x := f.fn - 1) (by omega)]
theorem rem_l4d (h : f.ln = 4) (hn : f.fn = 1) : removeS c s es f = (s.go 2 2 (fun _ => IntKind.u64.wrap (wrap64 (f.fn - 1))), es ++ [⟨13, f.fa, f.fu % 65536, 0, 0⟩], f, ⟨true, 1, f.fu % 65536⟩) := by
  unfold removeS
  rw [if_neg (by omega), if_neg (by omega), if_neg (by omega), if_pos h, if_pos hn, if_pos hn]
theorem rem_l4 (h : f.ln = 4) (hn : ¬ f.fn = 1) : removeS c s es f = (s.go 2 2 (fun _ => IntKind.u64.wrap (wrap64 (f.fn - 1))), es ++ [⟨13, f.fa, f.fu % 65536, 0, 0⟩], { f with fi := 0, ln := childN 0 f.fn }, .none) := by
  unfold removeS
  rw [if_neg (by omega), if_neg (by omega), if_neg (by omega), if_pos h, if_neg hn, if_neg hn]
theorem rem_l5 (h : f.ln = 5) (hi : 0 ≤ f.fi ∧ f.fi ≤ 64) (hn : 1 ≤ f.fn ∧ f.fn ≤ 1000) : removeS c s es f =
    (s.go 1 (rSlot c (2 * f.fi + 1)) id, es, { f with fj := 2 * f.fi + 1, fw := s.old (rSlot c (2 * f.fi + 1)), ln := if f.fn - 1 ≤ 2 * f.fi + 2 then lessN (s.old (rSlot c (2 * f.fi + 1))) f.fv else 6 }, .none) := by
  unfold removeS
  rw [if_neg (by omega), if_neg (by omega), if_neg (by omega), if_neg (by omega), if_pos h, w64_id (x := 2 * f.fi) (by omega), w64_id (x := 2 * f.fi + 1) (by omega), w64_id (x := 2 * f.fi + 2) (by omega), w64_id (x := f.fn - 1) (by omega)]
theorem rem_l6 (h : f.ln = 6) (hi : 0 ≤ f.fi ∧ f.fi ≤ 64) : removeS c s es f =
    (s.go 1 (rSlot c (2 * f.fi + 2)) id, es, if s.old (rSlot c (2 * f.fi + 2)) < f.fw then { f with fw := s.old (rSlot c (2 * f.fi + 2)), fj := 2 * f.fi + 2, ln := lessN (s.old (rSlot c (2 * f.fi + 2))) f.fv } else { f with ln := lessN f.fw f.fv }, .none) := by
  unfold removeS
  rw [if_neg (by omega), if_neg (by omega), if_neg (by omega), if_neg (by omega), if_neg (by omega), if_pos h, w64_id (x := 2 * f.fi) (by omega), w64_id (x := 2 * f.fi + 2) (by omega)]
theorem rem_l7 (h : f.ln = 7) : removeS c s es f = (s.go 2 (rSlot c f.fi) (fun _ => f.fw), es, { f with fi := f.fj, ln := childN f.fj f.fn }, .none) := by
  unfold removeS
  rw [if_neg (by omega), if_neg (by omega), if_neg (by omega), if_neg (by omega), if_neg (by omega), if_neg (by omega), if_pos h]
theorem rem_l8 (h : f.ln = 8) : removeS c s es f = (s.go 2 (rSlot c f.fi) (fun _ => f.fv), es, f, ⟨true, 1, f.fu % 65536⟩) := by
  unfold removeS
  rw [if_neg (by omega), if_neg (by omega), if_neg (by omega), if_neg (by omega), if_neg (by omega), if_neg (by omega), if_neg (by omega)]
end

/-- From line 5 or 8 on Remove puts the last key where sinkE puts it. -/
theorem sink_run {c : Cfg} (hin : CfgIn c) (n : Nat) : ∀ (s : St) (es : List Ev) (L : List Int) (i : Nat) (f : Fra), L.length - i ≤ n → MemC c s → (L.length : Int) ≤ c.he → i < L.length → SlB c L s i → f.fi = i → f.fn = L.length + 1 → f.ln = (if 2 * i + 1 < L.length then 5 else 8) → f.U →
    ∃ s' N, RunE (removeS c) s es f s' es ⟨true, 1, f.fu % 65536⟩ N ∧ N ≤ 3 * n + 1 ∧ MemC c s' ∧ SlA c (sinkE L i f.fv) s' ∧ s'.old 2 = s.old 2 ∧ s'.old 3 = s.old 3 := by
  have hhe := hin.he
  have last : ∀ (s : St) (es : List Ev) (L : List Int) (i : Nat) (f : Fra), MemC c s → (L.length : Int) ≤ c.he → i < L.length → SlB c L s i → f.fi = i → f.ln = 8 → f.U →
      ∃ s', RunE (removeS c) s es f s' es ⟨true, 1, f.fu % 65536⟩ 1 ∧ MemC c s' ∧ SlA c (L.set i f.fv) s' ∧ s'.old 2 = s.old 2 ∧ s'.old 3 = s.old 3 := by
    intro s es L i f hm hL hi hs hfi hln hu
    have h1 := rem_l8 (c := c) (s := s) (es := es) hln
    rw [show rSlot c f.fi = rSlot c (i : Int) by rw [hfi]] at h1
    exact ⟨_, RunE.stop h1 rfl, hm.go _ _ _ (fun _ _ => hu.2.1), hs.fill hm hin hL hi f.fv, slot_low (by omega) (by omega) _ _, slot_low (by omega) (by omega) _ _⟩
  induction n with
  | zero => intro s es L i f hn hm hL hi; omega
  | succ n ih =>
    intro s es L i f hn hm hL hi hs hfi hfn hln hu
    by_cases h0 : L.length ≤ 2 * i + 1
    · obtain ⟨s', h1, h2, h3, h4, h5⟩ := last s es L i f hm hL hi hs hfi (by rw [hln, if_neg (by omega)]) hu
      exact ⟨s', 1, h1, by omega, h2, by rw [sinkE_end (.inl h0)]; exact h3, h4, h5⟩
    · rw [if_pos (by omega)] at hln
      -- what is left once the lesser child is known
      have tail : ∀ (s1 : St) (f1 : Fra), MemC c s1 → SlB c L s1 i → s1.old 2 = s.old 2 → s1.old 3 = s.old 3 → f1.fi = i → f1.fn = L.length + 1 → f1.fj = lesserE L i → f1.fw = elt L (lesserE L i) → f1.fv = f.fv → f1.fu = f.fu → f1.ln = lessN (elt L (lesserE L i)) f.fv → f1.U →
          ∃ s' N, RunE (removeS c) s1 es f1 s' es ⟨true, 1, f.fu % 65536⟩ N ∧ N ≤ 3 * n + 2 ∧ MemC c s' ∧ SlA c (sinkE L i f.fv) s' ∧ s'.old 2 = s.old 2 ∧ s'.old 3 = s.old 3 := by
        intro s1 f1 hm1 hs1 e2 e3 hf1 hf2 hf3 hf4 hf5 hf6 hf7 hu1
        have hc := lesserE_is L i
        by_cases hlt : elt L (lesserE L i) < f.fv
        · have h7 := rem_l7 (c := c) (s := s1) (es := es) (f := f1) (by rw [hf7]; unfold lessN; rw [if_pos hlt])
          have hux : uw (elt L (lesserE L i)) := hf4 ▸ hu1.2.2.1
          rw [show rSlot c f1.fi = rSlot c (i : Int) by rw [hf1], show (fun _ : Int => f1.fw) = (fun _ => elt L (lesserE L i)) by rw [hf4]] at h7
          have hm2 := hm1.go 2 (rSlot c i) (fun _ => elt L (lesserE L i)) (fun _ _ => hux)
          obtain ⟨s', N, g1, g2, g3, g4, g5, g6⟩ := ih (s1.go 2 (rSlot c i) (fun _ => elt L (lesserE L i))) es (L.set i (elt L (lesserE L i))) (lesserE L i) { f1 with fi := f1.fj, ln := childN f1.fj f1.fn }
            (by rw [List.length_set]; omega) hm2 (by rw [List.length_set]; exact hL) (by rw [List.length_set]; omega) (hs1.move hm1 hin hL hi _ _) hf3 (by rw [List.length_set]; exact hf2)
            (by rw [List.length_set]
                show childN f1.fj f1.fn = _
                rw [childN_is (by rw [hf3]; omega) (by rw [hf2]; omega), hf3, hf2]
                by_cases hz : 2 * lesserE L i + 1 < L.length
                · rw [if_pos hz, if_pos (by omega)]
                · rw [if_neg hz, if_neg (by omega)]) hu1
          refine ⟨s', N + 1, RunE.go h7 (by rw [← hf6]; exact g1), by omega, g3, ?_, (g5.trans (slot_low (by omega) (by omega) _ _)).trans e2, (g6.trans (slot_low (by omega) (by omega) _ _)).trans e3⟩
          rw [sinkE_go (by omega) (by omega), ← hf5]
          exact g4
        · obtain ⟨s', h1, h2, h3, h4, h5⟩ := last s1 es L i f1 hm1 hL hi hs1 hf1 (by rw [hf7]; unfold lessN; rw [if_neg hlt]) hu1
          rw [hf6] at h1
          rw [hf5] at h3
          exact ⟨s', 1, h1, by omega, h2, by rw [sinkE_end (.inr (by omega))]; exact h3, h4.trans e2, h5.trans e3⟩
      have h5 := rem_l5 (c := c) (s := s) (es := es) hln (by rw [hfi]; omega) (by rw [hfn]; omega)
      have e1 : (2 * f.fi + 1) = ((2 * i + 1 : Nat) : Int) := by rw [hfi]; omega
      have e2 : (2 * f.fi + 2) = ((2 * i + 2 : Nat) : Int) := by rw [hfi]; omega
      have hx1 : s.old (rSlot c ((2 * i + 1 : Nat) : Int)) = elt L (2 * i + 1) := hs _ (by omega) (by omega)
      rw [e1, e2, hx1, show f.fn - 1 = (L.length : Int) by rw [hfn]; omega] at h5
      have hm1 := hm.load 1 (rSlot c ((2 * i + 1 : Nat) : Int))
      have hs1 := hs.load 1 (rSlot c ((2 * i + 1 : Nat) : Int))
      have hu1 : uw (elt L (2 * i + 1)) := hx1 ▸ hm.u _
      by_cases h2 : 2 * i + 2 < L.length
      · rw [if_neg (by omega)] at h5
        have h6 := rem_l6 (c := c) (s := s.go 1 (rSlot c ((2 * i + 1 : Nat) : Int)) id) (es := es) (f := { f with fj := ((2 * i + 1 : Nat) : Int), fw := elt L (2 * i + 1), ln := 6 }) rfl (by show 0 ≤ f.fi ∧ f.fi ≤ 64; rw [hfi]; omega)
        have hx2 : (s.go 1 (rSlot c ((2 * i + 1 : Nat) : Int)) id).old (rSlot c ((2 * i + 2 : Nat) : Int)) = elt L (2 * i + 2) := hs1 _ h2 (by omega)
        have hu2 : uw (elt L (2 * i + 2)) := hx2 ▸ hm1.u _
        simp only [e2, hx2] at h6
        have hm2 := hm1.load 1 (rSlot c ((2 * i + 2 : Nat) : Int))
        have hs2 := hs1.load 1 (rSlot c ((2 * i + 2 : Nat) : Int))
        have o2 : ((s.go 1 (rSlot c ((2 * i + 1 : Nat) : Int)) id).go 1 (rSlot c ((2 * i + 2 : Nat) : Int)) id).old 2 = s.old 2 := by rw [goid_old, goid_old]
        have o3 : ((s.go 1 (rSlot c ((2 * i + 1 : Nat) : Int)) id).go 1 (rSlot c ((2 * i + 2 : Nat) : Int)) id).old 3 = s.old 3 := by rw [goid_old, goid_old]
        by_cases hlt : elt L (2 * i + 2) < elt L (2 * i + 1)
        · have hl : lesserE L i = 2 * i + 2 := by unfold lesserE; rw [if_pos ⟨h2, hlt⟩]
          rw [if_pos hlt] at h6
          rw [hl] at tail
          obtain ⟨s', N, g1, g2, g3, g4, g5, g6⟩ := tail _ { f with fj := ((2 * i + 2 : Nat) : Int), fw := elt L (2 * i + 2), ln := lessN (elt L (2 * i + 2)) f.fv } hm2 hs2 o2 o3 hfi hfn rfl rfl rfl rfl rfl ⟨hu.1, hu.2.1, hu2, hu.2.2.2⟩
          exact ⟨s', N + 1 + 1, RunE.go h5 (RunE.go h6 g1), by omega, g3, g4, g5, g6⟩
        · have hl : lesserE L i = 2 * i + 1 := by unfold lesserE; rw [if_neg (fun h => hlt h.2)]
          rw [if_neg hlt] at h6
          rw [hl] at tail
          obtain ⟨s', N, g1, g2, g3, g4, g5, g6⟩ := tail _ { f with fj := ((2 * i + 1 : Nat) : Int), fw := elt L (2 * i + 1), ln := lessN (elt L (2 * i + 1)) f.fv } hm2 hs2 o2 o3 hfi hfn rfl rfl rfl rfl rfl ⟨hu.1, hu.2.1, hu1, hu.2.2.2⟩
          exact ⟨s', N + 1 + 1, RunE.go h5 (RunE.go h6 g1), by omega, g3, g4, g5, g6⟩
      · rw [if_pos (by omega)] at h5
        have hl : lesserE L i = 2 * i + 1 := by unfold lesserE; rw [if_neg (fun h => h2 h.1)]
        rw [hl] at tail
        obtain ⟨s', N, g1, g2, g3, g4, g5, g6⟩ := tail _ { f with fj := ((2 * i + 1 : Nat) : Int), fw := elt L (2 * i + 1), ln := lessN (elt L (2 * i + 1)) f.fv } hm1 hs1 (goid_old _ _ _ _) (goid_old _ _ _ _) hfi hfn rfl rfl rfl rfl rfl ⟨hu.1, hu.2.1, hu1, hu.2.2.2⟩
        exact ⟨s', N + 1, RunE.go h5 g1, by omega, g3, g4, g5, g6⟩

/-- The injector of a memory holds the list h; A arrival numbers are gone. -/
structure InjH (c : Cfg) (h : List Int) (A : Nat) (s : St) : Prop where
  m : MemC c s
  le : (h.length : Int) ≤ c.he
  sz : s.old 2 = h.length
  ar : s.old 3 = A
  sl : SlA c h s
section
variable {c : Cfg} {s : St} {es : List Ev} {h : List Int} {A : Nat}
theorem InjH.load (H : InjH c h A s) (k a : Int) : InjH c h A (s.go k a id) := ⟨H.m.load k a, H.le, (goid_old _ _ _ _).trans H.sz, (goid_old _ _ _ _).trans H.ar, H.sl.load k a⟩
theorem u64_id {x : Int} (h : 0 ≤ x ∧ x ≤ 1000000000) : IntKind.u64.wrap x = x := by rw [IntKind.wrap_u64]; omega
theorem ins_full (hin : CfgIn c) (H : InjH c h A s) (d b : Int) (hf : c.he ≤ h.length) : RunE (insE c) s es { fra1 10 0 0 0 0 d with fb := b } (s.go 1 2 id) es ⟨true, 3, 0⟩ 1 ∧ InjH c h A (s.go 1 2 id) := by
  have hhe := hin.he
  have hle := H.le
  exact ⟨RunE.stop (ins_l1f rfl (by rw [H.sz, w64_id (by omega)]; exact hf)) rfl, H.load 1 2⟩
theorem ins_run (hin : CfgIn c) (H : InjH c h A s) (d b : Int) (hk : Keyed d A b) (hf : (h.length : Int) < c.he) :
    ∃ s' N, RunE (insE c) s es { fra1 10 0 0 0 0 d with fb := b } s' es ⟨true, 0, 0⟩ N ∧ N ≤ 200 ∧ InjH c (pushE h (keyS d A b)) (A + 1) s' := by
  have hhe := hin.he
  have hA := hk.2.1
  have h1 := ins_l1 (c := c) (s := s) (es := es) (f := { fra1 10 0 0 0 0 d with fb := b }) rfl (by rw [H.sz, w64_id (by omega)]; omega)
  rw [H.sz, w64_id (x := (h.length : Int)) (by omega)] at h1
  have H1 := H.load 1 2
  have e3 : IntKind.i64.wrap ((s.go 1 2 id).old 3) = A := by rw [H1.ar, wrap_two, w64_id (by omega)]
  have h2 := ins_l2 (c := c) (s := s.go 1 2 id) (es := es) (f := { ({ fra1 10 0 0 0 0 d with fb := b } : Fra) with fn := (h.length : Int), ln := 2 }) rfl (by rw [e3]; exact hk)
  rw [e3] at h2
  have hm2 := H1.m.go 6 3 (fun x => IntKind.u64.wrap (x + 1)) (fun _ _ => uw_wrap _)
  have hs2 : SlB c (h ++ [0]) ((s.go 1 2 id).go 6 3 (fun x => IntKind.u64.wrap (x + 1))) h.length := by
    intro j hj hn
    rw [List.length_append, List.length_singleton] at hj
    rw [low_slot (by omega) (by omega), elt_append (by omega)]
    exact H1.sl j (by omega)
  obtain ⟨s', N, g1, g2, g3, g4, g5, g6⟩ := rise_run hin h.length _ es (h ++ [0]) { ({ fra1 10 0 0 0 0 d with fb := b } : Fra) with fn := (h.length : Int), fw := keyS d A b, fi := (h.length : Int), ln := if (h.length : Int) ≤ 0 then 5 else 3 } hm2 (by simp; omega) (by simp) hs2 rfl
    (by show (if (h.length : Int) ≤ 0 then (5 : Int) else 3) = _; by_cases hz : h.length = 0 <;> simp [hz] <;> omega) ⟨uw_zero, uw_zero, keyS_uw hk, uw_zero⟩
  refine ⟨s', N + 1 + 1, RunE.go h1 (RunE.go h2 g1), by omega, ⟨g3, by rw [pushE_len]; omega, ?_, ?_, g4⟩⟩
  · rw [g5, pushE_len]
    show IntKind.u64.wrap (wrap64 ((h.length : Int) + 1)) = _
    rw [w64_id (by omega), u64_id (by omega)]
    omega
  · rw [g6, go_old _ 6 3 _ (H1.m.has hin (by omega) (by omega)), H1.ar, u64_id (by omega)]
    omega
theorem rem_none (H : InjH c [] A s) (a : Int) : RunE (removeS c) s es (fra1 11 0 0 0 0 a) (s.go 1 2 id) es ⟨true, 2, 0⟩ 1 ∧ InjH c [] A (s.go 1 2 id) :=
  ⟨RunE.stop (rem_l1e rfl (by rw [H.sz, w64_id (by simp)]; simp)) rfl, H.load 1 2⟩
theorem rem_run (hin : CfgIn c) (H : InjH c h A s) (a : Int) (h0 : 0 < h.length) :
    ∃ s' N, RunE (removeS c) s es (fra1 11 0 0 0 0 a) s' (es ++ [⟨13, a, elt h 0 % 65536, 0, 0⟩]) ⟨true, 1, elt h 0 % 65536⟩ N ∧ N ≤ 200 ∧ InjH c (popE h) A s' := by
  have hhe := hin.he
  have hle := H.le
  have h1 := rem_l1 (c := c) (s := s) (es := es) (f := fra1 11 0 0 0 0 a) rfl (by rw [H.sz, w64_id (by omega)]; omega)
  rw [H.sz, w64_id (x := (h.length : Int)) (by omega)] at h1
  have H1 := H.load 1 2
  have h2 := rem_l2 (c := c) (s := s.go 1 2 id) (es := es) (f := { fra1 11 0 0 0 0 a with fn := (h.length : Int), ln := 2 }) rfl
  have x0 : (s.go 1 2 id).old (rSlot c 0) = elt h 0 := H1.sl 0 h0
  have u0 : uw (elt h 0) := x0 ▸ H1.m.u _
  rw [x0] at h2
  have H2 := H1.load 1 (rSlot c 0)
  have h3 := rem_l3 (c := c) (s := (s.go 1 2 id).go 1 (rSlot c 0) id) (es := es) (f := { fra1 11 0 0 0 0 a with fn := (h.length : Int), fu := elt h 0, ln := 3 }) rfl ⟨by show 1 ≤ (h.length : Int); omega, by show (h.length : Int) ≤ 1000; omega⟩
  have e3 : (h.length : Int) - 1 = ((h.length - 1 : Nat) : Int) := by omega
  have x1 : ((s.go 1 2 id).go 1 (rSlot c 0) id).old (rSlot c ((h.length - 1 : Nat) : Int)) = elt h (h.length - 1) := H2.sl _ (by omega)
  have u1 : uw (elt h (h.length - 1)) := x1 ▸ H2.m.u _
  simp only [e3, x1] at h3
  have H3 := H2.load 1 (rSlot c ((h.length - 1 : Nat) : Int))
  have hv : IntKind.u64.wrap (wrap64 ((h.length : Int) - 1)) = ((h.length - 1 : Nat) : Int) := by rw [e3, w64_id (by omega), u64_id (by omega)]
  generalize ((s.go 1 2 id).go 1 (rSlot c 0) id).go 1 (rSlot c ((h.length - 1 : Nat) : Int)) id = s3 at *
  have hm4 := H3.m.go 2 2 (fun _ => ((h.length - 1 : Nat) : Int)) (fun _ _ => ⟨by omega, by omega⟩)
  have o2 : (s3.go 2 2 (fun _ => ((h.length - 1 : Nat) : Int))).old 2 = ((h.length - 1 : Nat) : Int) := go_old _ 2 2 _ (H3.m.has hin (by omega) (by omega))
  have o3 : (s3.go 2 2 (fun _ => ((h.length - 1 : Nat) : Int))).old 3 = A := (go_other _ 2 2 3 _ (by omega)).trans H3.ar
  by_cases hn : h.length = 1
  · have h4 := rem_l4d (c := c) (s := s3) (es := es) (f := { fra1 11 0 0 0 0 a with fn := (h.length : Int), fu := elt h 0, fv := elt h (h.length - 1), ln := 4 }) rfl (by show (h.length : Int) = 1; omega)
    simp only [hv] at h4
    refine ⟨_, 1 + 1 + 1 + 1, RunE.go h1 (RunE.go h2 (RunE.go h3 (RunE.stop h4 rfl))), by omega, ⟨hm4, by rw [popE_len]; omega, by rw [popE_len]; exact o2, o3, ?_⟩⟩
    intro j hj
    rw [popE_len] at hj
    omega
  · have h4 := rem_l4 (c := c) (s := s3) (es := es) (f := { fra1 11 0 0 0 0 a with fn := (h.length : Int), fu := elt h 0, fv := elt h (h.length - 1), ln := 4 }) rfl (by show ¬ (h.length : Int) = 1; omega)
    simp only [hv] at h4
    have hdl : h.dropLast.length = h.length - 1 := by simp
    have hs4 : SlB c h.dropLast (s3.go 2 2 (fun _ => ((h.length - 1 : Nat) : Int))) 0 := by
      intro j hj _
      rw [hdl] at hj
      rw [low_slot (by omega) (by omega), elt_dropLast hj]
      exact H3.sl j (by omega)
    obtain ⟨s', N, g1, g2, g3, g4, g5, g6⟩ := sink_run hin 63 _ (es ++ [⟨13, a, elt h 0 % 65536, 0, 0⟩]) h.dropLast 0 { fra1 11 0 0 0 0 a with fn := (h.length : Int), fu := elt h 0, fv := elt h (h.length - 1), fi := 0, ln := childN 0 (h.length : Int) } (by rw [hdl]; omega) hm4 (by rw [hdl]; omega) (by rw [hdl]; omega) hs4 rfl
      (by rw [hdl]; show (h.length : Int) = _; omega)
      (by rw [hdl]
          show childN 0 (h.length : Int) = _
          rw [childN_is ⟨by omega, by omega⟩ ⟨by omega, by omega⟩]
          by_cases hz : 2 * 0 + 1 < h.length - 1
          · rw [if_pos hz, if_pos (by omega)]
          · rw [if_neg hz, if_neg (by omega)]) ⟨u0, u1, uw_zero, uw_zero⟩
    refine ⟨s', N + 1 + 1 + 1 + 1, RunE.go h1 (RunE.go h2 (RunE.go h3 (RunE.go h4 g1))), by omega, ⟨g3, by rw [popE_len]; omega, by rw [popE_len, g5]; exact o2, by rw [g6]; exact o3, ?_⟩⟩
    unfold popE
    rw [if_neg hn]
    exact g4
end
theorem RunE.one {stp : St → List Ev → Fra → St × List Ev × Fra × Res} {s s' : St} {es es' : List Ev} {f : Fra} {r : Res} {n : Nat} (h : RunE stp s es f s' es' r n) : 1 ≤ n := by cases h <;> omega
end Go.Proofs.Ytanbjdlaolgepaa
