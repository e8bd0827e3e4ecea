/-
  Package injector: the lines of its machines, and of the reference's, as plain functions of a memory's state and a frame. No function and no type is named.
  Plain mathematics of heaps: a hole that moves up or down a list. No function is named.
  Package injector: what its machines keep, and what they do alone. No function is named.
  Package memory: Load.
  Package memory: Add.
-/
import Derived.Test.YtanbjdlaolgepaaGreatMgAG
import Derived.Test.YtanbjdlaolgepaaGreatMgAI
import Derived.Test.YtanbjdlaolgepaaGreatMgAE
import Derived.Sort.Lot0
import Derived.Test.YtanbjdlaolgepaaGreatMgAN
namespace Go.Proofs.YtanbjdlaolgepaaGreat
open Go Go.RowKit
set_option linter.unusedSimpArgs false

/-- The place above, as the drawn statement has it, and as the other one has it. -/
abbrev parD (i : Int) : Int := IntKind.i64.wrap ((IntKind.i64.wrap (i - 1)).tdiv 2)
abbrev parI (i : Int) : Int := wrap64 ((wrap64 (i - 1)).tdiv 2)
/-- A line of insert. -/
def insertS (c : Cfg) (s : St) (f : Fra) : St × Fra × Res :=
  if f.ln = 1 then
    if c.he ≤ wrap64 (s.old 2) then (s.go 1 2 id, { f with fn := wrap64 (s.old 2) }, ⟨true, 3, 0⟩) else (s.go 1 2 id, { f with fn := wrap64 (s.old 2), ln := 2 }, .none)
  else if f.ln = 2 then
    if Keyed f.fa (IntKind.i64.wrap (s.old 3)) f.fb then (s.go 6 3 (fun x => IntKind.u64.wrap (x + 1)), { f with fw := keyS f.fa (IntKind.i64.wrap (s.old 3)) f.fb, fi := f.fn, ln := if f.fn ≤ 0 then 5 else 3 }, .none)
    else (s.go 6 3 (fun x => IntKind.u64.wrap (x + 1)), f, ⟨true, 4, 0⟩)
  else if f.ln = 3 then (s.go 1 (rSlot c (parD f.fi)) id, { f with fx := s.old (rSlot c (parD f.fi)), ln := if s.old (rSlot c (parD f.fi)) ≤ f.fw then 5 else 4 }, .none)
  else if f.ln = 4 then (s.go 2 (rSlot c f.fi) (fun _ => f.fx), { f with fi := parI f.fi, ln := if parI f.fi ≤ 0 then 5 else 3 }, .none)
  else if f.ln = 5 then (s.go 2 (rSlot c f.fi) (fun _ => f.fw), { f with ln := 6 }, .none)
  else (s.go 2 2 (fun _ => IntKind.u64.wrap (wrap64 (f.fn + 1))), f, ⟨true, 0, 0⟩)
/-- Line 5 if the place has a child, and line 8 otherwise. -/
def childN (i n : Int) : Int := if wrap64 (wrap64 (2 * i) + 1) < wrap64 (n - 1) then 5 else 8
def lessN (x y : Int) : Int := if x < y then 7 else 8
/-- remove: memory, events, frame, result. -/
def removeS (c : Cfg) (s : St) (es : List Ev) (f : Fra) : St × List Ev × Fra × Res :=
  if f.ln = 1 then (s.go 1 2 id, es, if wrap64 (s.old 2) ≤ 0 then { f with fn := wrap64 (s.old 2) } else { f with fn := wrap64 (s.old 2), ln := 2 }, if wrap64 (s.old 2) ≤ 0 then ⟨true, 2, 0⟩ else .none)
  else if f.ln = 2 then (s.go 1 (rSlot c 0) id, es, { f with fu := s.old (rSlot c 0), ln := 3 }, .none)
  else if f.ln = 3 then (s.go 1 (rSlot c (IntKind.i64.wrap (f.fn - 1))) id, es, { f with fv := s.old (rSlot c (IntKind.i64.wrap (f.fn - 1))), ln := 4 }, .none)
  else if f.ln = 4 then (s.go 2 2 (fun _ => IntKind.u64.wrap (wrap64 (f.fn - 1))), es ++ [⟨13, f.fa, f.fu % 65536, 0, 0⟩], if f.fn = 1 then f else { f with fi := 0, ln := childN 0 f.fn }, if f.fn = 1 then ⟨true, 1, f.fu % 65536⟩ else .none)
  else if f.ln = 5 then
    (s.go 1 (rSlot c (wrap64 (wrap64 (2 * f.fi) + 1))) id, es, { f with fj := wrap64 (wrap64 (2 * f.fi) + 1), fw := s.old (rSlot c (wrap64 (wrap64 (2 * f.fi) + 1))), ln := if wrap64 (f.fn - 1) ≤ wrap64 (wrap64 (2 * f.fi) + 2) then lessN (s.old (rSlot c (wrap64 (wrap64 (2 * f.fi) + 1)))) f.fv else 6 }, .none)
  else if f.ln = 6 then
    (s.go 1 (rSlot c (wrap64 (wrap64 (2 * f.fi) + 2))) id, es, if s.old (rSlot c (wrap64 (wrap64 (2 * f.fi) + 2))) < f.fw then { f with fw := s.old (rSlot c (wrap64 (wrap64 (2 * f.fi) + 2))), fj := wrap64 (wrap64 (2 * f.fi) + 2), ln := lessN (s.old (rSlot c (wrap64 (wrap64 (2 * f.fi) + 2)))) f.fv } else { f with ln := lessN f.fw f.fv }, .none)
  else if f.ln = 7 then (s.go 2 (rSlot c f.fi) (fun _ => f.fw), es, { f with fi := f.fj, ln := childN f.fj f.fn }, .none)
  else (s.go 2 (rSlot c f.fi) (fun _ => f.fv), es, f, ⟨true, 1, f.fu % 65536⟩)

theorem wrap_two (x : Int) : IntKind.i64.wrap x = wrap64 x := by rw [IntKind.wrap_i64]; unfold wrap64; omega

end Go.Proofs.YtanbjdlaolgepaaGreat

namespace Go.Proofs.YtanbjdlaolgepaaGreat
set_option linter.unusedSimpArgs false
set_option linter.unusedVariables false

/-- Element i. -/
def elt (l : List Int) (i : Nat) : Int := l.getD i 0
/-- No element is less than its parent. -/
def HeapE (l : List Int) : Prop := ∀ j, 0 < j → j < l.length → elt l ((j - 1) / 2) ≤ elt l j
instance (l : List Int) : Decidable (HeapE l) := decidable_of_iff (∀ j, j < l.length → 0 < j → elt l ((j - 1) / 2) ≤ elt l j) ⟨fun h j a b => h j b a, fun h j a b => h j b a⟩
end Go.Proofs.YtanbjdlaolgepaaGreat

namespace Go.Proofs.YtanbjdlaolgepaaGreat
open Go Go.RowKit
set_option linter.unusedSimpArgs false
set_option linter.unusedVariables false

theorem w64_in (x : Int) : -9223372036854775808 ≤ wrap64 x ∧ wrap64 x ≤ 9223372036854775807 := by unfold wrap64; omega
theorem w64_id {x : Int} (h : -9223372036854775808 ≤ x ∧ x ≤ 9223372036854775807) : wrap64 x = x := by unfold wrap64; omega
/-- What keeps Insert going. -/
structure InsOk (f : Fra) : Prop where
  ln : f.ln = 1 ∨ f.ln = 2 ∨ f.ln = 3 ∨ f.ln = 4 ∨ f.ln = 5 ∨ f.ln = 6
  fn : -9223372036854775808 ≤ f.fn ∧ f.fn ≤ 9223372036854775807
  fi : -9223372036854775808 ≤ f.fi ∧ f.fi ≤ 9223372036854775807
  up : f.ln = 3 ∨ f.ln = 4 → 0 < f.fi
  u : f.U
theorem insOk_new (kd a b : Int) : InsOk { fra1 kd 0 0 0 0 a with fb := b } := ⟨.inl rfl, ⟨by simp, by simp⟩, ⟨by simp, by simp⟩, fun h => by simp at h, uw_zero, uw_zero, uw_zero, uw_zero⟩
theorem ins_ok {c : Cfg} {s : St} {f : Fra} (hs : s.U) (h : InsOk f) (hd : (insertS c s f).2.2.dn = false) : InsOk (insertS c s f).2.1 := by
  obtain ⟨hl, hn, hi, hu, h1, h2, h3, h4⟩ := h
  unfold insertS at hd ⊢
  split at hd
  · rename_i e1
    rw [if_pos e1]
    split at hd
    · cases hd
    · rename_i e2
      rw [if_neg e2]
      exact ⟨.inr (.inl rfl), w64_in _, hi, fun h => by simp at h, h1, h2, h3, h4⟩
  rename_i e1
  rw [if_neg e1]
  split at hd
  · rename_i e2
    rw [if_pos e2]
    split at hd
    · rename_i e3
      rw [if_pos e3]
      refine ⟨?_, hn, hn, ?_, h1, h2, keyS_uw e3, h4⟩
      · show (if f.fn ≤ 0 then (5 : Int) else 3) = 1 ∨ _
        split <;> simp
      · show (if f.fn ≤ 0 then (5 : Int) else 3) = 3 ∨ (if f.fn ≤ 0 then (5 : Int) else 3) = 4 → 0 < f.fn
        split <;> intro h <;> omega
    · cases hd
  rename_i e2
  rw [if_neg e2]
  split
  · refine ⟨?_, hn, hi, fun _ => hu (by omega), h1, h2, h3, hs _⟩
    show (if s.old (rSlot c (parD f.fi)) ≤ f.fw then (5 : Int) else 4) = 1 ∨ _
    split <;> simp
  rename_i e3
  split
  · have hp := hu (by omega)
    refine ⟨?_, hn, w64_in _, ?_, h1, h2, h3, h4⟩
    · show (if parI f.fi ≤ 0 then (5 : Int) else 3) = 1 ∨ _
      split <;> simp
    · show (if parI f.fi ≤ 0 then (5 : Int) else 3) = 3 ∨ (if parI f.fi ≤ 0 then (5 : Int) else 3) = 4 → 0 < parI f.fi
      split <;> intro h <;> omega
  rename_i e4
  split
  · exact ⟨.inr (.inr (.inr (.inr (.inr rfl)))), hn, hi, fun h => by simp at h, h1, h2, h3, h4⟩
  · rename_i e5
    rw [if_neg e3, if_neg e4, if_neg e5] at hd
    cases hd
theorem ins_U {c : Cfg} {s : St} {f : Fra} (hs : s.U) (h : f.U) : (insertS c s f).1.U := by
  obtain ⟨h1, h2, h3, h4⟩ := h
  unfold insertS
  split
  · split <;> exact go_U hs _ _ _ (fun x hx => hx)
  split
  · split <;> exact go_U hs _ _ _ (fun x hx => uw_wrap _)
  split
  · exact go_U hs _ _ _ (fun x hx => hx)
  split
  · exact go_U hs _ _ _ (fun x hx => h4)
  split
  · exact go_U hs _ _ _ (fun x hx => h3)
  · exact go_U hs _ _ _ (fun x hx => uw_wrap _)
/-- What keeps Remove going. -/
structure RemOk (f : Fra) : Prop where
  ln : f.ln = 1 ∨ f.ln = 2 ∨ f.ln = 3 ∨ f.ln = 4 ∨ f.ln = 5 ∨ f.ln = 6 ∨ f.ln = 7 ∨ f.ln = 8
  fn : f.ln ≠ 1 → 1 ≤ f.fn ∧ f.fn ≤ 9223372036854775807
  z : f.ln ≤ 4 → f.fi = 0
  fi : 0 ≤ f.fi ∧ f.fi ≤ 64
  v : 4 ≤ f.ln → f.fv = 0 ∨ f.fn ≤ 64
  c5 : f.ln = 5 → 2 * f.fi + 1 < f.fn - 1
  c6 : f.ln = 6 → f.fj = 2 * f.fi + 1 ∧ f.fj + 1 < f.fn - 1
  c7 : f.ln = 7 → 0 ≤ f.fj ∧ f.fj < f.fn - 1 ∧ f.fn ≤ 64
  u : f.U
theorem remOk_new (kd a : Int) : RemOk (fra1 kd 0 0 0 0 a) := ⟨.inl rfl, fun h => by simp at h, fun _ => rfl, ⟨by simp, by simp⟩, fun h => by simp at h, fun h => by simp at h, fun h => by simp at h, fun h => by simp at h, uw_zero, uw_zero, uw_zero, uw_zero⟩
theorem rSlot_out {c : Cfg} {s : St} {i : Int} (h : c.he ≤ i) : s.old (rSlot c i) = 0 := by
  unfold rSlot ixs
  rw [if_pos (.inr h)]
  unfold St.old
  rw [if_neg (show ¬ s.has (-1) from fun h => by have := h.1; omega)]
theorem childN_is {i n : Int} (h0 : 0 ≤ i ∧ i ≤ 64) (hn : 1 ≤ n ∧ n ≤ 9223372036854775807) : childN i n = if 2 * i + 1 < n - 1 then 5 else 8 := by
  unfold childN
  rw [w64_id (x := 2 * i) (by omega), w64_id (x := 2 * i + 1) (by omega), w64_id (x := n - 1) (by omega)]
theorem lessN_78 (x y : Int) : lessN x y = 7 ∨ lessN x y = 8 := by unfold lessN; split <;> simp
theorem lessN_7 {x y : Int} (h : lessN x y = 7) : x < y := by unfold lessN at h; split at h <;> omega
theorem rem_ok {c : Cfg} {s : St} {es : List Ev} {f : Fra} (hin : CfgIn c) (hs : s.U) (h : RemOk f) (hd : (removeS c s es f).2.2.2.dn = false) : RemOk (removeS c s es f).2.2.1 := by
  obtain ⟨hl, hn, hz, hi, hv, k5, k6, k7, h1, h2, h3, h4⟩ := h
  have hhe := hin.he
  unfold removeS at hd ⊢
  by_cases e1 : f.ln = 1
  · rw [if_pos e1] at hd ⊢
    by_cases e2 : wrap64 (s.old 2) ≤ 0
    · simp [e2] at hd
    · have hw := w64_in (s.old 2)
      simp only [if_neg e2]
      exact ⟨.inr (.inl rfl), fun _ => ⟨by show 1 ≤ wrap64 _; omega, hw.2⟩, fun _ => hz (by omega), hi, fun h => by simp at h, fun h => by simp at h, fun h => by simp at h, fun h => by simp at h, h1, h2, h3, h4⟩
  have hn := hn e1
  rw [if_neg e1] at hd ⊢
  by_cases e2 : f.ln = 2
  · rw [if_pos e2] at hd ⊢
    exact ⟨.inr (.inr (.inl rfl)), fun _ => hn, fun _ => hz (by omega), hi, fun h => by simp at h, fun h => by simp at h, fun h => by simp at h, fun h => by simp at h, hs _, h2, h3, h4⟩
  rw [if_neg e2] at hd ⊢
  by_cases e3 : f.ln = 3
  · rw [if_pos e3] at hd ⊢
    refine ⟨.inr (.inr (.inr (.inl rfl))), fun _ => hn, fun _ => hz (by omega), hi, fun _ => ?_, fun h => by simp at h, fun h => by simp at h, fun h => by simp at h, h1, hs _, h3, h4⟩
    show s.old (rSlot c (IntKind.i64.wrap (f.fn - 1))) = 0 ∨ f.fn ≤ 64
    rw [wrap_two, w64_id (by omega)]
    by_cases hc : f.fn ≤ 64
    · exact .inr hc
    · exact .inl (rSlot_out (by omega))
  rw [if_neg e3] at hd ⊢
  by_cases e4 : f.ln = 4
  · rw [if_pos e4] at hd ⊢
    have hv := hv (by omega)
    by_cases e5 : f.fn = 1
    · simp [e5] at hd
    · simp only [if_neg e5]
      have hc : childN 0 f.fn = if (1 : Int) < f.fn - 1 then 5 else 8 := childN_is (i := 0) ⟨by omega, by omega⟩ hn
      generalize childN 0 f.fn = L at *
      have hL : (L = 5 ∧ 1 < f.fn - 1) ∨ L = 8 := by
        rw [hc]
        split
        · rename_i h
          exact .inl ⟨rfl, h⟩
        · exact .inr rfl
      refine ⟨(show L = 1 ∨ L = 2 ∨ L = 3 ∨ L = 4 ∨ L = 5 ∨ L = 6 ∨ L = 7 ∨ L = 8 by omega), fun _ => hn, fun _ => rfl, ⟨by show (0 : Int) ≤ 0; omega, by show (0 : Int) ≤ 64; omega⟩, fun _ => hv, fun h => ?_, fun h => ?_, fun h => ?_, h1, h2, h3, h4⟩
      · have h : L = 5 := h
        show 2 * (0 : Int) + 1 < f.fn - 1
        omega
      · exfalso
        have h : L = 6 := h
        omega
      · exfalso
        have h : L = 7 := h
        omega
  rw [if_neg e4] at hd ⊢
  have hv := hv (by omega)
  by_cases e5 : f.ln = 5
  · rw [if_pos e5] at hd ⊢
    have k5 := k5 e5
    rw [w64_id (x := 2 * f.fi) (by omega), w64_id (x := 2 * f.fi + 1) (by omega), w64_id (x := 2 * f.fi + 2) (by omega), w64_id (x := f.fn - 1) (by omega)]
    have hw : uw (s.old (rSlot c (2 * f.fi + 1))) := hs _
    have hL : ∀ L, (if f.fn - 1 ≤ 2 * f.fi + 2 then lessN (s.old (rSlot c (2 * f.fi + 1))) f.fv else 6) = L → (L = 6 ∧ 2 * f.fi + 2 < f.fn - 1) ∨ (L = 7 ∧ s.old (rSlot c (2 * f.fi + 1)) < f.fv) ∨ L = 8 := by
      rintro L rfl
      unfold lessN
      split
      · split
        · rename_i h
          exact .inr (.inl ⟨rfl, h⟩)
        · exact .inr (.inr rfl)
      · exact .inl ⟨rfl, by omega⟩
    generalize (if f.fn - 1 ≤ 2 * f.fi + 2 then lessN (s.old (rSlot c (2 * f.fi + 1))) f.fv else 6) = L at *
    have hL := hL L rfl
    have hw0 := hw.1
    refine ⟨(show L = 1 ∨ L = 2 ∨ L = 3 ∨ L = 4 ∨ L = 5 ∨ L = 6 ∨ L = 7 ∨ L = 8 by omega), fun _ => hn, fun h => ?_, hi, fun _ => hv, fun h => ?_, fun h => ?_, fun h => ?_, h1, h2, hw, h4⟩
    · have h : L ≤ 4 := h
      omega
    · have h : L = 5 := h
      omega
    · have h : L = 6 := h
      exact ⟨rfl, by show 2 * f.fi + 1 + 1 < f.fn - 1; omega⟩
    · have h : L = 7 := h
      exact ⟨by show 0 ≤ 2 * f.fi + 1; omega, k5, by show f.fn ≤ 64; omega⟩
  rw [if_neg e5] at hd ⊢
  by_cases e6 : f.ln = 6
  · rw [if_pos e6] at hd ⊢
    obtain ⟨k6, k6'⟩ := k6 e6
    rw [w64_id (x := 2 * f.fi) (by omega), w64_id (x := 2 * f.fi + 2) (by omega)]
    have hw : uw (s.old (rSlot c (2 * f.fi + 2))) := hs _
    by_cases e7 : s.old (rSlot c (2 * f.fi + 2)) < f.fw
    · simp only [if_pos e7]
      have hll := lessN_78 (s.old (rSlot c (2 * f.fi + 2))) f.fv
      have hl7 := @lessN_7 (s.old (rSlot c (2 * f.fi + 2))) f.fv
      generalize lessN (s.old (rSlot c (2 * f.fi + 2))) f.fv = L at *
      refine ⟨(show L = 1 ∨ L = 2 ∨ L = 3 ∨ L = 4 ∨ L = 5 ∨ L = 6 ∨ L = 7 ∨ L = 8 by omega), fun _ => hn, fun h => ?_, hi, fun _ => hv, fun h => ?_, fun h => ?_, fun h => ?_, h1, h2, hw, h4⟩
      · exfalso; have h : L ≤ 4 := h; omega
      · exfalso; have h : L = 5 := h; omega
      · exfalso; have h : L = 6 := h; omega
      · have h := hl7 h
        have := hw.1
        exact ⟨by show 0 ≤ 2 * f.fi + 2; omega, by show 2 * f.fi + 2 < f.fn - 1; omega, by show f.fn ≤ 64; omega⟩
    · simp only [if_neg e7]
      have hll := lessN_78 f.fw f.fv
      have hl7 := @lessN_7 f.fw f.fv
      generalize lessN f.fw f.fv = L at *
      refine ⟨(show L = 1 ∨ L = 2 ∨ L = 3 ∨ L = 4 ∨ L = 5 ∨ L = 6 ∨ L = 7 ∨ L = 8 by omega), fun _ => hn, fun h => ?_, hi, fun _ => hv, fun h => ?_, fun h => ?_, fun h => ?_, h1, h2, h3, h4⟩
      · exfalso; have h : L ≤ 4 := h; omega
      · exfalso; have h : L = 5 := h; omega
      · exfalso; have h : L = 6 := h; omega
      · have h := hl7 h
        have := h3.1
        exact ⟨by show 0 ≤ f.fj; omega, by show f.fj < f.fn - 1; omega, by show f.fn ≤ 64; omega⟩
  rw [if_neg e6] at hd ⊢
  by_cases e7 : f.ln = 7
  · rw [if_pos e7] at hd ⊢
    obtain ⟨j0, j1, j2⟩ := k7 e7
    have hc : childN f.fj f.fn = if 2 * f.fj + 1 < f.fn - 1 then 5 else 8 := childN_is ⟨j0, by omega⟩ hn
    generalize childN f.fj f.fn = L at *
    have hL : (L = 5 ∧ 2 * f.fj + 1 < f.fn - 1) ∨ L = 8 := by
      rw [hc]
      split
      · rename_i h
        exact .inl ⟨rfl, h⟩
      · exact .inr rfl
    refine ⟨(show L = 1 ∨ L = 2 ∨ L = 3 ∨ L = 4 ∨ L = 5 ∨ L = 6 ∨ L = 7 ∨ L = 8 by omega), fun _ => hn, fun h => ?_, ⟨j0, by show f.fj ≤ 64; omega⟩, fun _ => hv, fun h => ?_, fun h => ?_, fun h => ?_, h1, h2, h3, h4⟩
    · exfalso
      have h : L ≤ 4 := h
      omega
    · have h : L = 5 := h
      show 2 * f.fj + 1 < f.fn - 1
      omega
    · exfalso
      have h : L = 6 := h
      omega
    · exfalso
      have h : L = 7 := h
      omega
  rw [if_neg e7] at hd
  cases hd
theorem rem_U {c : Cfg} {s : St} {es : List Ev} {f : Fra} (hs : s.U) (h : f.U) : (removeS c s es f).1.U := by
  obtain ⟨h1, h2, h3, h4⟩ := h
  unfold removeS
  split
  · exact go_U hs _ _ _ (fun x hx => hx)
  split
  · exact go_U hs _ _ _ (fun x hx => hx)
  split
  · exact go_U hs _ _ _ (fun x hx => hx)
  split
  · exact go_U hs _ _ _ (fun x hx => uw_wrap _)
  split
  · exact go_U hs _ _ _ (fun x hx => hx)
  split
  · exact go_U hs _ _ _ (fun x hx => hx)
  split
  · exact go_U hs _ _ _ (fun x hx => h3)
  · exact go_U hs _ _ _ (fun x hx => h2)
end Go.Proofs.YtanbjdlaolgepaaGreat

namespace Go.Proofs.YtanbjdlaolgepaaGreat
open Go Go.RowKit Go.Shelf

theorem load_fn (x : Int) (w : World) : Calls Tryz.prog 190 #[.int .u64 x] w fun e w' => e = .returned (.int .u64 x) ∧ w = w' := by
  go_enter Tryz.func190, Tryz.ntmps190
  go_wp2
  go_ret
  exact ⟨rfl, rfl⟩

theorem load_any {w : World} {p g cap : Nat} {s : St} (h : Mem w p g cap s) (i : Int) :
    Calls Tryz.prog 186 #[.pointer (some ⟨p, 0, none⟩), .int .i64 i] w fun e w' => e = .returned (.int .u64 (s.old i)) ∧ Mem w' p g cap (s.go 1 i id) ∧ Fr [p, g] w w' := by
  have H := access_any h 1 i 190 #[] id (enters_of Tryz.func190 (by kernel_rfl) rfl) (fun x => load_fn x w)
  generalize s.old i = x at *
  generalize decide (s.has i) = b at *
  go_enter Tryz.func186, Tryz.ntmps186
  go_wp2_with fail
  refine H.mono ?_
  rintro e w' ⟨rfl, hm, hfr⟩
  go_wp2
  go_ret
  exact ⟨rfl, hm, hfr⟩
end Go.Proofs.YtanbjdlaolgepaaGreat

namespace Go.Proofs.YtanbjdlaolgepaaGreat
open Go Go.RowKit Go.Shelf

theorem add_fn (x v : Int) (a : Addr) (w : World) (h : w.cell? a = some (.int .u64 v)) : Calls Tryz.prog 200 #[.int .u64 x, .pointer (some a)] w fun e w' => e = .returned (.int .u64 (IntKind.u64.wrap (x + v))) ∧ w = w' := by
  go_enter Tryz.func200, Tryz.ntmps200
  go_wp2
  go_ret
  exact ⟨rfl, rfl⟩

theorem add_any {w : World} {p g cap : Nat} {s : St} (h : Mem w p g cap s) (i v : Int) :
    Calls Tryz.prog 198 #[.pointer (some ⟨p, 0, none⟩), .int .i64 i, .int .u64 v] w fun e w' => e = .returned (.int .u64 (s.old i)) ∧ Mem w' p g cap (s.go 6 i fun x => IntKind.u64.wrap (x + v)) ∧ Fr [p, g] w w' := by
  have hc : (w.alloc (.cells #[.int .u64 v] 46)).cell? ⟨w.heap.size, 0, none⟩ = some (.int .u64 v) := (Blk.made w 46 #[.int .u64 v]).at_ 0
  have H := access_any (h.alloc (.cells #[.int .u64 v] 46)) 6 i 200 #[.pointer (some ⟨w.heap.size, 0, none⟩)] _ (enters_of Tryz.func200 (by kernel_rfl) rfl) (fun x => add_fn x v _ _ hc)
  generalize s.old i = x at *
  generalize decide (s.has i) = b at *
  go_enter Tryz.func198, Tryz.ntmps198
  go_wp2_with fail
  refine H.mono ?_
  rintro e w' ⟨rfl, hm, hfr⟩
  go_wp2
  go_ret
  exact ⟨rfl, hm, ((Fr.refl _ _).alloc _).trans hfr⟩
end Go.Proofs.YtanbjdlaolgepaaGreat
